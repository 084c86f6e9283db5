import PyProof.Rows.All
import Wide.All
import OpenK.AllK
import Wide.FinOn
import Lean
import PyProof.EqAt
import PyProof.EqKinds
import PyProof.TupleCall
import PySem.SetTable
import PyProof.SetKind
import PyProof.TupleKey
import PyProof.DictKinds
import PyProof.Rows.SetFrom
import PyProof.ZipIter
import KE.KIntText
import PyProof.EnumIter
import PyProof.Rows.SortStr
import PyProof.Rows.SortWalk
import PyProof.Rows.MinMaxN
import PyProof.ConsumeWalk
import PyProof.CollectWalk
import PyProof.WalksMore
import PyProof.CollectStr
import PyProof.Rows.SortShellK
import PyProof.Rows.SortRunsK
import PyProof.SeqI3
import KE.KSortKey
import PyProof.Rows.CallKwBuiltin
import PyProof.SumAny
import PyProof.Conv_int_bool
import PyProof.StrLawsTight
import PyProof.Rows.StrFromFirst
import PyProof.StrLawsIn
import PyProof.FitsReplace
import KE.IntTextLaws
import PyProof.Rows.StrDigits
import PyProof.Rows.RegStrFacts
import PySem.Challenge.RW_notejar_k81_whole_read
open PySem.Str renaming ofString → a_, length → Jb, empty → KN
open Bool renaming true → b_, false → c_, and_eq_true → i_, false_ne_true → n_, false_eq_true → EZ, eq_iff_iff → Fv, and_eq_true_iff → Fz, not_true → Gw, not_false → Hq, and_false → Ij, not_eq_true' → Jv, or_false → JD, false_or → K6, not_eq_true → Me, or_eq_true → Mr
open PySem.W renaming Frag → ck, kia_one → F1, hideAll_none → Ge, emptyDict → Gk, keepIn → Gx, nsIn → GF, instObj → GK, kitOne → GV, of_hideAll → G6, fnOf → G7, mg_of → Iy, hideAll_get → II, codeIn → I_, methodObj → Js, cellsFrom_some → JW, absHeap → JX, OpenLaw → Kf, lookIn → Ks, excIn → K2, looks_findIn → Lx, kitx_list → Ly, kitx_dict → Lz, plainGet → LX, hideAll → Ml, through → Ms, openEnds → My, findIn → Mz, WalkO → MJ, kHook → MN
open PySem renaming Value → d_, Shared → e_, wpAny_bind → ge, starEach → j_, Addr → k_, wpAny_pure → m_, Program → pi, mainGlobals → x_, model → A_, wpAny → C_, Expr → D_, World → EO, Around → EQ, Heap → Fg, behindInMarks → Fk, compareOp → Fp, foldedSetIterable → Ft, cellsFrom → Fw, wpAny_mono → FR, backTo → FV, wpAny_holding → FX, FuncData → F3, wpAny_setState_of → F5, bootBuiltins → F9, Stmt → F_, swapsWith → Gr, Scope → GB, binaryOp → GE, wpAny_truthy_bool → GO, setSearchFrom → GR, mem_of_lookup → GT, wpAny_getItem_str_slice → GU, NameKind → GW, wpAny_Call_Name_kw → G5, wpAny_newObj_type → Hk, wpAny_passesOwn → Hy, Keyword → Hz, sliceBounds → HJ, sizeLine_eq → HK, wpAny_pyIter_list → HU, intText? → HV, codeAny → HW, wpAny_setFlight_noneW → Ik, typeIs_str → Ip, holding → Iw, attributeBase → Ix, codeAny_call_builtin → Iz, post_val_or_str → ID, letOwnedTupleGo → IE, codeAny_builtin → IF, codeAny_mono → IM, Builtin → IR, PassesOwn → IV, closureFor → IZ, call_meets → I0, GenState → Je, wpAny_loadPart_at → Jn, unsupported → Jo, slot_list_getitem → Jp, keywordEach → Jq, wpAny_getItem_list_slice → Jy, wpAny_comprehension_free → Jz, wpAny_forIn_list → JF, wpAny_callSpecial?_slot → JG, noFill_tuple_add → JH, wpAny_typeOf → JR, setAddHashed → JS, notedBy → JT, getItem → JU, assign → JV, IsPart → J0, wpAny_execs_nil → Kc, importedModules → Ke, wpAny_eqIsQuiet_tuple → Kj, wpAny_field → Ko, newFunctionEnv → Kp, lookup_relabel_local → Kq, intText_digits → Kr, Params → Kt, treeTable → KL, callerA → KM, BindsTo → KO, wpAny_standAt → KZ, seq_tuple_add → K0, evalPart_none → K1, Model → K4, wpAny_call → K7, sliceRange → K8, size_glued → K9, builtinsNs → K_, Result → Ld, JoinOk → Le, list_append → Ls, concat_meets → Lu, compEnvC → Lv, backToKw → Lw, noteFrame → LW, Thread → LZ, subscripted → Mh, strIterType → Mi, seqIndex_of → Mj, isSame → Mt, call → Mu, boot_len → Mv, bindL → Mw, bindC → Mx
open List renaming mem_cons_of_mem → f_, mem_cons_self → g_, range → l_, mem_append_right → o_, mem_cons → q_, all_eq_true → r_, length_map → s_, mem_append → t_, size_toArray → v_, length_append → z_, mem_append_left → ET, getElem?_set_ne → EU, length_cons → EV, replicate → E6, getElem?_set_self → E7, getElem?_eq_some_iff → E_, mem_singleton → Fc, mem_range → Fd, map_cons → Fe, getElem?_eq_getElem → Ff, getElem?_map → Fh, not_mem_nil → Fi, mem_map → Fq, lookup_cons → Fs, length_set → Fu, getElem?_append_right → FN, getElem?_append_left → FQ, getElem?_eq_none → FY, foldl_cons → Ga, mem_filterMap → Gc, mem_of_getElem? → Gf, map_congr_left → Go, filterMap_cons → Gp, map_append → Gq, length_drop → Gs, mem_of_mem_drop → GA, filterMap_map → GH, length_replicate → GI, reverse_cons → GP, map_map → GQ, length_take → GZ, length_eq_zero_iff → G0, getElem?_replicate → G4, range_succ_eq_map → G_, lookup_append → Ha, nodup_cons → Hc, all_cons → Hi, length_range → Hl, drop_zero → Ho, getElem_mem → Hu, getElem_of_mem → Hw, mem_filter → HE, append_nil → HF, length → HQ, getElem?_cons_zero → HR, foldl_append → Ic, flatMap_cons → Ie, ext_getElem? → Ig, drop_left → Ih, take_append_drop → Im, drop_length → Iv, toList_toArray → IJ, replicate_succ → IK, getElem?_range → IL, getElem?_drop → Jj, pairwise_iff_getElem → Jk, extract_eq_drop_take → Jl, drop_eq_getElem_cons → Jm, sum_cons → JA, getElem?_take_of_lt → JB, any_cons → JC, cons_append → JP, take_of_length_le → Ka, of_mem_zip → Kh, nil_append → Ki, length_singleton → Km, getElem?_toArray → Kn, take_left → KB, pairwise_append → KC, mem_of_mem_take → KD, getElem?_of_mem → KG, length_reverse → KW, zip_cons_cons → Lk, foldl_toArray → Ll, find?_eq_none → Lm, take_sublist → LP, map_nil → LQ, flatten_cons → LR, append_assoc → LS, mem_flatMap → Mb, isEmpty_iff → Mc, any_eq_true → Md, range_succ → Mn, find?_some → Mp, foldl → MG
open Decidable renaming decide → h_
open PySem.Heap renaming get?_push_of_some → on, lt_size → B_, get?_push_size → EY, size_push → Gz, get?_update_other → HZ, SameBut → IQ, get?_update_self → Kl
open Nat renaming le_refl → p_, lt_of_lt_of_le → y_, le_trans → EW, ne_of_lt → Fy, zero_le → F7, lt_irrefl → Gj, le_of_lt_succ → Gm, not_lt_zero → GC, succ_pos → G9, eq_of_beq_eq_true → Hj, zero_add → Ht, mod_lt → HH, ne_of_beq_eq_false → H_, le_of_lt → Ia, le_of_eq → Ib, le_of_ble_eq_true → Il, succ_mul → IU, min_le_right → JN, add_sub_cancel_left → JO, toDigits → J3, lt_trans → J_, pow_le_pow_right → Kx, mul_le_mul_right → Ky, mul_le_mul → Kz, beq → KP, lt_of_le_of_lt → Lj, succ_add → LK, mul_comm → LM, lt_trichotomy → LN, lt_succ_of_lt → LO, lt_succ_self → L_, le_of_not_lt → Ma
open PySem.Txt renaming startswith → uk, split → u_, partition → Fa, slice → FP, join → Gy, slice_le → Hs, endswith → HX
open PySem.Value renaming ref → w_, type → Fb, none → FF, bool → Gb, builtin → He, str → Hr, isStrOf_shape → KQ, isStrOf → K3, int → LY
open PySem.SetTable renaming insertAt → xy, leap → Hh, runEnd → Iq, turns → IA, grown → Jc, insertAt_perm → JY, sameMemory → KR, tooFull → L4, gaveWay → L5, advance → L6, probe → MB, layClean → MC, slot → ML, fill → MM
open Array renaming length_toList → ES, mem_toList_iff → FB, getD_eq_getD_getElem? → FK, getElem?_toList → FZ, getElem?_eq_some_iff → F0, getElem?_eq_getElem → F4, replicate → GN, mem_of_getElem? → Io, toList_extract → IC, getElem?_setIfInBounds → IH, toList_push → Jw, size_append → Jx, size_setIfInBounds → JE, all_toList → JQ, toList_filterMap → Kb, toList_append → KY, getElem?_map → Lo, forIn_toList → Lp, foldl_toList → Lq, append_assoc → Lr, getElem_mem → LV, toList_inj → Mf, mem_filter → Mg, size_map → MH
open Option.some renaming inj → Fj, injEq → LH
open Option renaming none → Fm, some → Fx, map_eq_some_iff → FU, isSome_iff_exists → Gv, bind_eq_some_iff → GY, map_some → HB, all_some → Kg, mem_toList → LJ, getD_none → L9
open PySem.PyData renaming eqv → FH, canLayAll0 → F6, canLay0 → F8, eqvAll → Gh, depthAll → GL, depth → HY
open False renaming elim → FJ
open PyProof.Rows renaming slot_tuple_getitem → FL, callWith_type1 → GG, boot_isinstance → Hb, envOfC → Ir, callWith_builtin1 → Iu, fact_partition → IS, AllBare → IT, subscriptTail_builtinR → J1, subscriptTail → K5, SortKind → LF, IntsAre → LG, pendingOf → L8, IsTup → MF, Keyed → MO
open PySem.Builtin.Str renaming occurrences → FM, strKind → GD, tooLong → KU, glued → LD
open Int renaming emod_lt_of_pos → Gd, emod_nonneg → GM, ediv_one → LU
open PySem.SetTable.layClean renaming free → Gg
open PySem.NameKind renaming free → Gi, cell → Gu
open PySem.Builtin.Slice renaming slicePlaces → GJ, sliceAdjust → Hv, sliceApplied → Ji
open PySem.Builtin.Tuple renaming tupleExact → GS, tupleItemsOf → Jh
open PyProof.Rows.F renaming plain_set_update_loop → GX, entry_set_update_loop → JM
open PySem.F renaming called_set → G8, excBase_ValueError → Hn, args_tuple_add_2 → Hx, entry_tuple_add → HP, slot_str_split → HS, slot_tuple_add → H4, slot_list_append → IB, args_str_split_2 → Jf, entry_str_split → Ju, slot_str_partition → JK, args_list_append_2 → Ku, entry_list_append → KT
open List.cons renaming injEq → Hd
open PySem.SetTable.probe renaming go → Hm
open Ne renaming symm → HC
open PySem.ClassData renaming mk → HG
open PySem.NumText renaming digitsVal → HM, AllDigits → HN
open List.Pairwise renaming nil → Ii
open PySem.Obj renaming mk → IG, putSet → Jd, mapSeq → JZ
open PySem.W.Fast renaming tw11892475500146522536 → IN, tw10156331382660048174 → IP, tw6613529449190102663 → Ja
open PySem.Data renaming dict → IW, fields → Mk, cls → ME
open LawfulBEq renaming eq_of_beq → IX
open True renaming intro → IY
open PySem.Calls renaming Name_function_global → Jg, evalArgs_plain → Kv, spliced_cons → Lh, spliced_nil → LC
open PySem.StrLaws renaming subAt_one → Jt, glued_eq_join → Kk, split_free → La, found_one → LA
open PySem.SetTable.below renaming go → JJ
open PySem.Builtin.ObjectAttr renaming find → JL, dataDescriptor? → Li, bindTo → MI
open PySem.Around renaming under_plainId → Kw
open Sum renaming inr → KH, inl → KI
open PySem.Heap.SameBut renaming update → KS
open PySem.SeqAt.EqAt renaming str_int → Lb, int_str → Lc
open PySem.Heap.IsSliceOf renaming new → Lf
open PySem.Code renaming quiet_builtin → Lg
open PySem.IsL renaming update → L7
open PySem.Builtin.Frozenset renaming updateFrom → Mm
open ForInStep renaming yield → Mq
open PySem.SetFound renaming there → MD
open PySem.Shared renaming TypeIs → MK
open PyProof.Rows.IsTup renaming new → MP
set_option maxHeartbeats 4000000
set_option Elab.async false
namespace TR
open PySem PySem.W
def fU (tb:String→Option IR) (p:pi) (w:EO) (n₀:Nat) (ann:Option d_):Nat→SharedT→LZ→Option SharedT
 | 0,_,_=>none
 | n + 1,s,t=>match Ms t with
  | true=>some s
  | false=>match stepOk n₀ ann t with
   | false=>none
   | true=>match stepT (denote tb) p w s t with
    | some (s',t')=>fU tb p w n₀ ann n s' t'
    | none=>none
def gL:List Obj→BT→Nat→Option (BT×Nat)
 | [],t,n=>some (t,n)
 | o :: os,t,n=>match ((t.ins n o).get n).isSome with
  | true=>gL os (t.ins n o) (n + 1)
  | false=>none
def qO (tb:String→Option IR) (p:pi) (w:EO) (N:Nat):Option e_:=(fencedOpening tb p w N).bind fun s₀=>match s₀.heap.isNs x_ && s₀.gens.size == 0 with
 | true=>(gL s₀.heap.objs.toList .nil 0).bind fun x=>(fU tb p w s₀.heap.objs.size (s₀.heap.nsMap x_ "__annotations__") N ⟨x.1,x.2,s₀.heap.life,s₀.gens,s₀.drawn,s₀.toks,s₀.os⟩ (topStub p)).bind fun sT=>match staticsOk (Ke p.main.body) s₀.heap sT.abs.heap && namesBound p sT.abs.heap && gensDone sT.abs && laidKept s₀.heap sT.abs.heap with
  | true=>some sT.abs
  | false=>none
 | false=>none
section
variable {tb:String→Option IR} {p:pi} {w:EO} {n₀:Nat} {ann:Option d_}
theorem gm:∀ (n:Nat) (s:SharedT) (t:LZ) (s':SharedT),fU tb p w n₀ ann n s t=some s'→topRun tb p w n₀ ann n s.abs t=some s'.abs
 | 0,_,_,_,h=>by cases h
 | n + 1,s,t,s',h=>by
  unfold fU at h;unfold topRun;cases ht:Ms t with
  | true=>rw [ht] at h; cases h; rfl
  | false =>
   rw [ht] at h;cases hk:stepOk n₀ ann t with
   | false=>rw [hk] at h; cases h
   | true =>
    rw [hk] at h;cases hs:stepT (denote tb) p w s t with
    | none=>rw [hs] at h; cases h
    | some x =>
     obtain ⟨s1,t1⟩:=x;rw [hs] at h;dsimp only at h ⊢;rw [stepT_spec hs];exact gm n s1 t1 s' h
theorem gM {life:Life}:∀ (os:List Obj) (t:BT) (n:Nat) (t':BT) (n':Nat),gL os t n=some (t',n')→(JX t' n' life).objs=(JX t n life).objs ++ os.toArray
 | [],t,n,t',n',h=>by cases h; simp
 | o :: os,t,n,t',n',h=>by
  unfold gL at h;cases e:((t.ins n o).get n).isSome with
  | false=>rw [e] at h; cases h
  | true =>
   rw [e] at h;rw [gM os _ _ _ _ h,absHeap_ins e];show (JX t n life).objs.push o ++ os.toArray=_;simp
theorem mI {N:Nat} {s:e_} (h:qO tb p w N=some s):My tb p w N=some s:=by
 unfold qO at h;unfold My;obtain ⟨s₀,h0,h1⟩:=GY.mp h;rw [h0];show topFrom tb p w N s₀=some s;unfold topFrom;cases hc:(s₀.heap.isNs x_ && s₀.gens.size == 0) with
 | false=>rw [hc] at h1; cases h1
 | true =>
  rw [hc] at h1;dsimp only at h1 ⊢;obtain ⟨⟨t',n'⟩,h2,h3⟩:=GY.mp h1;obtain ⟨sT,h4,h5⟩:=GY.mp h3;have e:=gM (life:=s₀.heap.life) _ _ _ _ _ h2;have e2:JX t' n' s₀.heap.life=s₀.heap:=by
   have e3:(JX t' n' s₀.heap.life).objs=s₀.heap.objs:=by
    rw [e];show (JX BT.nil 0 s₀.heap.life).objs ++ s₀.heap.objs.toList.toArray=_;simp [JX,BT.list]
   obtain ⟨⟨objs,life⟩,g,d,k,os⟩:=s₀;show Heap.mk _ _=Heap.mk _ _;exact congrArg (Heap.mk · life) e3
  have r:=gm _ _ _ _ h4;have ea:(SharedT.abs ⟨t',n',s₀.heap.life,s₀.gens,s₀.drawn,s₀.toks,s₀.os⟩)=s₀:=by
   show Shared.mk (JX t' n' s₀.heap.life) _ _ _ _=s₀;rw [e2]
  rw [ea] at r;rw [r];exact h5
theorem nA {α:Type} {N:Nat} {f:e_→α} {a:α} (h:(qO tb p w N).map f=some a):(My tb p w N).map f=some a:=by
 obtain ⟨s,h1,h2⟩:=FU.mp h;rw [mI h1];exact congrArg some h2
end
noncomputable def Bs (tb:String→Option IR) (p:pi) (w:EO) (n₀:Nat) (ann:Option d_) (n:Nat):SharedT→LZ→Option SharedT :=
 @Nat.rec (fun _=>SharedT→LZ→Option SharedT) (fun _ _=>none) (fun _ ih s t=>@Bool.rec (fun _=>Option SharedT) (@Bool.rec (fun _=>Option SharedT) none (@Option.rec (SharedT×LZ) (fun _=>Option SharedT) none (fun x=>ih x.1 x.2) (IP (IN tb) p w s t)) (Ja n₀ ann t)) (some s) (Ms t)) n
theorem nF {tb:String→Option IR} {p:pi} {w:EO} {n₀:Nat} {ann:Option d_}:∀ (n:Nat) (s:SharedT) (t:LZ),Bs tb p w n₀ ann n s t=fU tb p w n₀ ann n s t
 | 0,_,_=>rfl
 | n + 1,s,t=>by
  show @Bool.rec (fun _=>Option SharedT) (@Bool.rec (fun _=>Option SharedT) none (@Option.rec (SharedT×LZ) (fun _=>Option SharedT) none (fun x=>Bs tb p w n₀ ann n x.1 x.2) (IP (IN tb) p w s t)) (Ja n₀ ann t)) (some s) (Ms t)=_;unfold fU;rw [← Fast.te10156331382660048174,← Fast.te11892475500146522536,← Fast.te6613529449190102663];cases Ms t with
  | true=>rfl
  | false =>
   cases stepOk n₀ ann t with
   | false=>rfl
   | true =>
    cases stepT (denote tb) p w s t with
    | none=>rfl
    | some x=>exact nF n x.1 x.2
noncomputable def openQ (tb:String→Option IR) (p:pi) (w:EO) (N:Nat):Option e_:=(fencedOpening tb p w N).bind fun s₀=>match s₀.heap.isNs x_ && s₀.gens.size == 0 with
 | true=>(gL s₀.heap.objs.toList .nil 0).bind fun x=>(Bs tb p w s₀.heap.objs.size (s₀.heap.nsMap x_ "__annotations__") N ⟨x.1,x.2,s₀.heap.life,s₀.gens,s₀.drawn,s₀.toks,s₀.os⟩ (topStub p)).bind fun sT=>match staticsOk (Ke p.main.body) s₀.heap sT.abs.heap && namesBound p sT.abs.heap && gensDone sT.abs && laidKept s₀.heap sT.abs.heap with
  | true=>some sT.abs
  | false=>none
 | false=>none
theorem openQ_map {tb:String→Option IR} {p:pi} {w:EO} {α:Type} {N:Nat} {f:e_→α} {a:α} (h:(openQ tb p w N).map f=some a):(My tb p w N).map f=some a:=by
 refine nA ?_;unfold openQ at h;unfold qO;simp only [nF] at h;exact h
end TR
namespace G
open PySem PySem.W PyProof.Rows
noncomputable def hT (i:Nat):F_:=PySem.Challenge.pw_notejar_k81_whole_read.main.body.getD i (.Pass ⟨0,0,0,0⟩)
noncomputable def hA (s:F_):Arguments:=match s with
 | .FunctionDef _ a _ _ _ _ _ _ _ _=>a
 | _=>{ posonlyargs:=[],args:=[],vararg:=none,kwonlyargs:=[],kw_defaults:=[],kwarg:=none,defaults:=[] }
noncomputable def hB (s:F_):List F_:=match s with
 | .FunctionDef _ _ b _ _ _ _ _ _ _=>b
 | _=>[]
noncomputable def hS (s:F_):GB:=match s with
 | .FunctionDef _ _ _ _ _ _ sc _ _ _=>sc
 | _=>{ kind:=.function,names:=[],isGenerator:=c_,isCoroutine:=c_ }
noncomputable abbrev kS (s:String) (t:Nat):d_:=.str (a_ s) t
noncomputable abbrev kR (a:Nat):d_:=.ref a
noncomputable abbrev kI (i:Int) (t:Nat):d_:=.int i t
noncomputable abbrev kE (P:Kt) (s:String) (t:Nat) (v:d_):DictEntry:=⟨PySem.PyData.keyHash P (a_ s),.str (a_ s) t,v⟩
noncomputable def kF (x:String) (i:Nat) (m:String) (t c:Nat):Obj:=IG (Fb "function") Fm (Data.func (fnOf (a_ x) (a_ x) (hA (hT i)) (hB (hT i)) (hS (hT i)) .none FF FF (kS m t) Fm (kR c) FF)) #[]
noncomputable def kF' (x:String) (i c:Nat):=kF x i "law_notejar_k81_whole_read" 492 c
noncomputable def kC (x:String) (a b c:Nat) (d e f:Int) (g:Nat) (h:Int) (i j:Nat) (k l:Int) (m:Nat):Obj:=IG (Fb "code") Fm (Mk #[kS x a,kS x b,kS "/claim/cut.py" c,kI d 0,kI e 0,kI 0 0,kI 0 0,kI f 0,kR g,Gb b_,kI h 0,kR i,FF,FF,FF,kR j,kI k 0,kI l 0,kS "/claim/cut.py" m]) #[]
noncomputable def kD (x:String) (a b c:Nat) (d e f:Int) (g:Nat) (h:Int) (i u v j:Nat) (k l:Int) (m:Nat):Obj:=IG (Fb "code") Fm (Mk #[kS x a,kS x b,kS "/claim/cut.py" c,kI d 0,kI e 0,kI 0 0,kI 0 0,kI f 0,kR g,Gb b_,kI h 0,kR i,FF,kR u,kR v,kR j,kI k 0,kI l 0,kS "/claim/cut.py" m]) #[]
noncomputable def KKa (P:Kt):Frag:=[(2,IG FF Fm (IW #[]) #[]),
 (3,IG (Fb "dict") Fm (IW #[kE P "__name__" 165 (kS "law_notejar_k81_whole_read" 492),kE P "__doc__" 166 FF,kE P "__package__" 167 FF,kE P "__loader__" 168 (He "__main__.__loader__#opaque"),kE P "__spec__" 169 FF,kE P "__annotations__" 170 (kR 6),kE P "__builtins__" 171 (kR 4),kE P "__file__" 173 (kS "/claim/cut.py" 172),kE P "__cached__" 174 FF,kE P "JarError" 206 (kR 24),kE P "NoNote" 222 (kR 37),kE P "NoJar" 238 (kR 49),kE P "NoText" 254 (kR 61),kE P "is_text_of" 262 (kR 68),kE P "is_whole_number" 271 (kR 75),kE P "is_tuple_of" 279 (kR 82),kE P "FIGURES" 283 (kS "0123456789" 282),kE P "LABEL_SIGNS" 285 (kS "abcdefghijklmnopqrstuvwxyz0123456789-" 284),kE P "LONGEST_LABEL" 287 (kI 8 286),kE P "MOST_LABELS" 289 (kI 5 288),kE P "is_label" 296 (kR 89),kE P "is_name" 302 (kR 94),kE P "PATH_SIGNS" 306 (kS "abcdefghijklmnopqrstuvwxyz0123456789-_./" 305),kE P "LONGEST_PATH" 308 (kI 20 307),kE P "is_path" 315 (kR 101),kE P "LAST_MOMENT" 319 (kI 9999 318),kE P "is_moment" 326 (kR 108),kE P "is_moment_or_none" 333 (kR 115),kE P "NOTE_NAME_SIGNS" 337 (kS "abcdefghijklmnopqrstuvwxyzABCDEFGHIJKLMNOPQRSTUVWXYZ0123456789-_" 336),kE P "LONGEST_NOTE_NAME" 339 (kI 10 338),kE P "NO_WORTH_SIGNS" 341 (kS ";,=" 340),kE P "LONGEST_WORTH" 343 (kI 12 342),kE P "MOST_FIGURES" 345 (kI 4 344),kE P "is_note_name" 352 (kR 122),kE P "is_worth" 358 (kR 127),kE P "is_reach" 365 (kR 134),kE P "is_written_moment" 372 (kR 141),kE P "NOTE_NAME" 376 (kI 0 375),kE P "NOTE_WORTH" 378 (kI 1 377),kE P "NOTE_HOUSE" 380 (kI 2 379),kE P "NOTE_EXACT" 382 (kI 3 381),kE P "NOTE_PATH" 384 (kI 4 383),kE P "NOTE_ENDS" 386 (kI 5 385),kE P "NOTE_SAFE" 388 (kI 6 387),kE P "NOTE_REACH" 390 (kI 7 389),kE P "NOTE_MADE" 392 (kI 8 391),kE P "NOTE_USED" 394 (kI 9 393),kE P "NOTE_PARTS" 396 (kI 10 395),kE P "is_note" 403 (kR 148),kE P "key" 410 (kR 155),kE P "MOST_NOTES" 414 (kI 20 413),kE P "is_jar" 420 (kR 160),kE P "is_by_made" 426 (kR 165),kE P "has_no_key_twice" 432 (kR 170),kE P "need_jar" 439 (kR 177),kE P "note_text" 449 (kR 184),kE P "jar_text" 455 (kR 189),kE P "read_jar" 461 (kR 194),kE P "read_line" 473 (kR 201),kE P "what_is_written" 483 (kR 208),kE P "written_moment" 491 (kR 215),kE P "_law_cell" 501 (kR 222),kE P "_law_drawn" 511 (kR 229),kE P "_law_name" 520 (kR 236),kE P "_law_table" 526 (kR 241),kE P "_law_path" 535 (kR 248),kE P "_law_ask" 544 (kR 255),kE P "_law_jar" 550 (kR 260),kE P "_law_told" 559 (kR 267),kE P "_law_moment" 565 (kR 272),kE P "_law_note" 581 (kR 279),kE P "_law_due" 587 (kR 284),kE P "law" 608 (kR 291)] 73) #[]),
 (23,IG (Fb "dict") Fm (IW #[kE P "__module__" 196 (kS "notejar.errors" 187),kE P "__firstlineno__" 200 (kI 2 199),kE P "__static_attributes__" 201 (kR 22),kE P "__weakref__" 203 (kR 25),kE P "__doc__" 204 FF] 3) #[]),
 (24,IG (Fb "type") Fm (ME (HG (a_ "JarError") [Fb "ValueError"] [kR 24,Fb "ValueError",Fb "Exception",Fb "BaseException",Fb "object"] 23 (a_ "JarError") b_ [] [kR 37,kR 49,kR 61] c_ Fm c_)) #[Fx (kR 15),Fm,Fx (kS "JarError" 189),Fx (kS "JarError" 197),Fx (He "ValueError.__new__"),Fx (Gb b_)]),
 (36,IG (Fb "dict") Fm (IW #[kE P "__module__" 214 (kS "notejar.errors" 187),kE P "__firstlineno__" 218 (kI 4 217),kE P "__static_attributes__" 219 (kR 35),kE P "__doc__" 220 FF] 2) #[]),
 (37,IG (Fb "type") Fm (ME (HG (a_ "NoNote") [kR 24] [kR 37,kR 24,Fb "ValueError",Fb "Exception",Fb "BaseException",Fb "object"] 36 (a_ "NoNote") b_ [] [] c_ Fm c_)) #[Fx (kR 28),Fm,Fx (kS "NoNote" 207),Fx (kS "NoNote" 215),Fx (He "ValueError.__new__"),Fx (Gb b_)]),
 (48,IG (Fb "dict") Fm (IW #[kE P "__module__" 230 (kS "notejar.errors" 187),kE P "__firstlineno__" 234 (kI 6 233),kE P "__static_attributes__" 235 (kR 47),kE P "__doc__" 236 FF] 2) #[]),
 (49,IG (Fb "type") Fm (ME (HG (a_ "NoJar") [kR 24] [kR 49,kR 24,Fb "ValueError",Fb "Exception",Fb "BaseException",Fb "object"] 48 (a_ "NoJar") b_ [] [] c_ Fm c_)) #[Fx (kR 40),Fm,Fx (kS "NoJar" 223),Fx (kS "NoJar" 231),Fx (He "ValueError.__new__"),Fx (Gb b_)]),
 (60,IG (Fb "dict") Fm (IW #[kE P "__module__" 246 (kS "notejar.errors" 187),kE P "__firstlineno__" 250 (kI 8 249),kE P "__static_attributes__" 251 (kR 59),kE P "__doc__" 252 FF] 2) #[]),
 (61,IG (Fb "type") Fm (ME (HG (a_ "NoText") [kR 24] [kR 61,kR 24,Fb "ValueError",Fb "Exception",Fb "BaseException",Fb "object"] 60 (a_ "NoText") b_ [] [] c_ Fm c_)) #[Fx (kR 52),Fm,Fx (kS "NoText" 239),Fx (kS "NoText" 247),Fx (He "ValueError.__new__"),Fx (Gb b_)]),
 (67,kC "is_text_of" 257 258 259 11 4 3 64 181 65 66 260 11 261),
 (68,kF "is_text_of" 6 "notejar.kinds" 255 67),
 (74,kD "is_whole_number" 263 264 265 17 3 3 69 181 70 71 72 73 269 17 270),
 (75,kF "is_whole_number" 7 "notejar.kinds" 255 74),
 (81,kD "is_tuple_of" 272 273 274 21 2 3 76 181 77 78 79 80 277 21 278),
 (82,kF "is_tuple_of" 8 "notejar.kinds" 255 81),
 (88,kD "is_label" 290 291 292 28 1 3 83 181 84 85 86 87 294 28 295),
 (89,kF "is_label" 14 "notejar.names" 280 88),
 (93,kC "is_name" 297 298 299 32 1 3 90 181 91 92 300 32 301),
 (94,kF "is_name" 15 "notejar.names" 280 93),
 (100,kD "is_path" 309 310 311 42 1 3 95 181 96 97 98 99 313 42 314),
 (101,kF "is_path" 19 "notejar.paths" 303 100),
 (107,kD "is_moment" 320 321 322 46 1 3 102 181 103 104 105 106 324 46 325),
 (108,kF "is_moment" 22 "notejar.asks" 316 107),
 (114,kD "is_moment_or_none" 327 328 329 48 1 3 109 181 110 111 112 113 331 48 332),
 (115,kF "is_moment_or_none" 23 "notejar.asks" 316 114),
 (121,kD "is_note_name" 346 347 348 56 1 3 116 181 117 118 119 120 350 56 351),
 (122,kF "is_note_name" 30 "notejar.giving" 334 121),
 (126,kC "is_worth" 353 354 355 58 1 3 123 181 124 125 356 58 357),
 (127,kF "is_worth" 31 "notejar.giving" 334 126),
 (133,kD "is_reach" 359 360 361 62 1 3 128 181 129 130 131 132 363 62 364),
 (134,kF "is_reach" 32 "notejar.giving" 334 133),
 (140,kD "is_written_moment" 366 367 368 64 1 3 135 181 136 137 138 139 370 64 371),
 (141,kF "is_written_moment" 33 "notejar.giving" 334 140),
 (147,kD "is_note" 397 398 399 78 1 3 142 181 143 144 145 146 401 78 402),
 (148,kF "is_note" 46 "notejar.notes" 373 147),
 (154,kD "key" 404 405 406 84 1 3 149 181 150 151 152 153 408 84 409),
 (155,kF "key" 47 "notejar.notes" 373 154),
 (159,kC "is_jar" 415 416 417 88 1 3 156 181 157 158 418 88 419)]
noncomputable def KKb (P:Kt):Frag:=[(160,kF "is_jar" 50 "notejar.jars" 411 159),
 (164,kC "is_by_made" 421 422 423 94 1 3 161 181 162 163 424 94 425),
 (165,kF "is_by_made" 51 "notejar.jars" 411 164),
 (169,kC "has_no_key_twice" 427 428 429 96 1 3 166 181 167 168 430 96 431),
 (170,kF "has_no_key_twice" 52 "notejar.jars" 411 169),
 (176,kD "need_jar" 433 434 435 99 1 3 171 181 172 173 174 175 437 99 438),
 (177,kF "need_jar" 53 "notejar.jars" 411 176),
 (183,kD "note_text" 442 443 444 103 1 3 178 181 179 180 181 182 447 103 448),
 (184,kF "note_text" 55 "notejar.texts" 440 183),
 (188,kC "jar_text" 450 451 452 116 1 3 185 181 186 187 453 116 454),
 (189,kF "jar_text" 56 "notejar.texts" 440 188),
 (193,kC "read_jar" 456 457 458 119 1 3 190 181 191 192 459 119 460),
 (194,kF "read_jar" 57 "notejar.texts" 440 193),
 (200,kD "read_line" 462 463 464 126 1 3 195 181 196 197 198 199 471 126 472),
 (201,kF "read_line" 58 "notejar.texts" 440 200),
 (207,kD "what_is_written" 474 475 476 134 1 3 202 181 203 204 205 206 481 134 482),
 (208,kF "what_is_written" 59 "notejar.texts" 440 207),
 (214,kD "written_moment" 484 485 486 149 2 3 209 181 210 211 212 213 489 149 490),
 (215,kF "written_moment" 60 "notejar.texts" 440 214),
 (221,kD "_law_cell" 494 495 496 158 2 3 216 181 217 218 219 220 499 158 500),
 (222,kF' "_law_cell" 62 221),
 (228,kD "_law_drawn" 502 503 504 162 3 3 223 181 224 225 226 227 509 162 510),
 (229,kF' "_law_drawn" 63 228),
 (235,kD "_law_name" 512 513 514 166 2 3 230 181 231 232 233 234 518 166 519),
 (236,kF' "_law_name" 64 235),
 (247,kD "_law_path" 527 528 529 173 2 3 242 181 243 244 245 246 533 173 534),
 (248,kF' "_law_path" 66 247),
 (259,kC "_law_jar" 545 546 547 179 3 3 256 181 257 258 548 179 549),
 (260,kF' "_law_jar" 68 259),
 (266,kD "_law_told" 551 552 553 197 1 3 261 181 262 263 264 265 557 197 558),
 (267,kF' "_law_told" 69 266),
 (271,kC "_law_moment" 560 561 562 205 2 3 268 181 269 270 563 205 564),
 (272,kF' "_law_moment" 70 271),
 (278,kD "_law_note" 566 567 568 212 1 3 273 181 274 275 276 277 579 212 580),
 (279,kF' "_law_note" 71 278),
 (283,kC "_law_due" 582 583 584 234 1 3 280 181 281 282 585 234 586),
 (284,kF' "_law_due" 72 283),
 (290,kD "law" 588 589 590 238 1 3 285 181 286 287 288 289 606 238 607),
 (291,kF' "law" 73 290)]
noncomputable def KK (P:Kt):Frag:=KKa P ++ KKb P
noncomputable def KAa:List k_:=[2,3,23,24,36,37,48,49,60,61,67,68,74,75,81,82,88,89,93,94,100,101,107,108,114,115,121,122,126,127,133,134,140,141,147,148,154,155,159]
noncomputable def KAb:List k_:=[160,164,165,169,170,176,177,183,184,188,189,193,194,200,201,207,208,214,215,221,222,228,229,235,236,247,248,259,260,266,267,271,272,278,279,283,284,290,291]
noncomputable def KA:List k_:=KAa ++ KAb
theorem KA_ok (P:Kt):KA=(KK P).map (·.1):=by kernel_rfl
noncomputable def VQ:pi:=view PySem.Challenge.pw_notejar_k81_whole_read [73]
theorem hbr:PySem.Challenge.rw_notejar_k81_whole_read.row.prog.bare:=⟨rfl,rfl,rfl,rfl,rfl,by decide +kernel⟩
theorem slo:PySem.W.looksOpen PySem.Challenge.rw_notejar_k81_whole_read.row.prog=b_:=by kernel_rfl
set_option maxRecDepth 100000 in
theorem sd1:PySem.Challenge.rw_notejar_k81_whole_read.row.wellSaid=b_:=by
 unfold PySem.W.OpenRow.wellSaid PySem.W.OpenRow.partSaid;rw [slo]
 kernel_rfl
set_option maxRecDepth 100000 in
theorem sd:PySem.Challenge.rw_notejar_k81_whole_read.wellSaid=b_:=by
 unfold PySem.W.OpenLaw.wellSaid;rw [sd1]
 kernel_rfl
theorem hld (h:PySem.Challenge.rw_notejar_k81_whole_read.row.wellSaid=b_→PySem.Challenge.rw_notejar_k81_whole_read.row.Holds):PySem.Challenge.rw_notejar_k81_whole_read.Holds:=PySem.W.holds_law sd h
noncomputable def VL:List Str:=[a_ "JarError",a_ "NoNote",a_ "NoJar",a_ "NoText",a_ "is_text_of",a_ "is_whole_number",a_ "is_tuple_of",a_ "FIGURES",a_ "LABEL_SIGNS",a_ "LONGEST_LABEL",a_ "MOST_LABELS",a_ "is_label",a_ "is_name",a_ "PATH_SIGNS",a_ "LONGEST_PATH",a_ "is_path",a_ "LAST_MOMENT",a_ "is_moment",a_ "is_moment_or_none",a_ "NOTE_NAME_SIGNS",a_ "LONGEST_NOTE_NAME",a_ "NO_WORTH_SIGNS",a_ "LONGEST_WORTH",a_ "MOST_FIGURES",a_ "is_note_name",a_ "is_worth",a_ "is_reach",a_ "is_written_moment",a_ "NOTE_NAME",a_ "NOTE_WORTH",a_ "NOTE_HOUSE",a_ "NOTE_EXACT",a_ "NOTE_PATH",a_ "NOTE_ENDS",a_ "NOTE_SAFE",a_ "NOTE_REACH",a_ "NOTE_MADE",a_ "NOTE_USED",a_ "NOTE_PARTS",a_ "is_note",a_ "key",a_ "MOST_NOTES",a_ "is_jar",a_ "is_by_made",a_ "has_no_key_twice",a_ "need_jar",a_ "note_text",a_ "jar_text",a_ "read_jar",a_ "read_line",a_ "what_is_written",a_ "written_moment",a_ "_law_cell",a_ "_law_drawn",a_ "_law_name",a_ "_law_table",a_ "_law_path",a_ "_law_ask",a_ "_law_jar",a_ "_law_told",a_ "_law_moment",a_ "_law_note",a_ "_law_due"]
theorem D2 {α β γ:Type} {o:Option α} {f:α→β} {g:α→γ} {a:β} {b:γ} (h1:o.map f=some a) (h2:o.map g=some b):o.map (fun s=>(f s,g s))=some (a,b):=by
 cases o with
 | none=>cases h1
 | some x=>cases h1; cases h2; rfl
set_option maxRecDepth 100000 in
theorem Bu (w:EO):(TR.openQ KL PySem.Challenge.pw_notejar_k81_whole_read w 4500).map (openSeen VQ VL (Ke PySem.Challenge.pw_notejar_k81_whole_read.main.body) (fun s=>recOk [] s) b_)=some (openGood VQ VL):=by kernel_rfl
set_option maxRecDepth 100000 in
theorem xo (w:EO):(TR.openQ KL PySem.Challenge.pw_notejar_k81_whole_read w 4500).map (fun s=>KAa.map s.heap.get?)=some ((KKa w.params).map fun p=>some p.2):=by kernel_rfl
set_option maxRecDepth 100000 in
theorem xp (w:EO):(TR.openQ KL PySem.Challenge.pw_notejar_k81_whole_read w 4500).map (fun s=>KAb.map s.heap.get?)=some ((KKb w.params).map fun p=>some p.2):=by kernel_rfl
theorem qP {α β γ:Type} {o:Option α} {f:α→β→γ} {A B:List β} {X Y:List γ} (h1:o.map (fun s=>A.map (f s))=some X) (h2:o.map (fun s=>B.map (f s))=some Y):o.map (fun s=>(A ++ B).map (f s))=some (X ++ Y):=by
 cases o with
 | none=>cases h1
 | some x=>cases h1; cases h2; simp
theorem Bv (w:EO):(TR.openQ KL PySem.Challenge.pw_notejar_k81_whole_read w 4500).map (fun s=>KA.map s.heap.get?)=some ((KK w.params).map fun p=>some p.2):=by
 show (TR.openQ KL PySem.Challenge.pw_notejar_k81_whole_read w 4500).map (fun s=>(KAa ++ KAb).map s.heap.get?)=some ((KKa w.params ++ KKb w.params).map fun p=>some p.2);rw [Gq];exact qP (f:=fun s:e_=>s.heap.get?) (xo w) (xp w)
theorem left:LeftO PySem.Challenge.pw_notejar_k81_whole_read VQ VL (fun s=>recOk [] s) (Hook.obs (MN KK KA KA_ok)) (Hook.val (MN KK KA KA_ok)) 4500:=fun w=>TR.openQ_map (D2 (Bu w) (Bv w))
end G
set_option Elab.async false
set_option linter.all false
set_option maxRecDepth 100000
namespace L2
open PySem PySem.Spec PyProof.Rows
abbrev Key:=Sum Int Str
def xq:Key→d_→Bool
 | .inl k,v=>Value.isInt k v
 | .inr x,v=>K3 x v
def D4 (w:EO):Key→Int
 | .inl k=>hashInt k
 | .inr x=>hashStr w x
theorem bf:∀ {k:Key} {v:d_},xq k v=b_→(∃ i t,k=KI i∧v=LY i t)∨(∃ x t,k=KH x∧v=Hr x t)
 | .inl i,v,h=>by
  obtain ⟨t,e⟩:=Value.isInt_shape (k:=i) (v:=v) h;exact .inl ⟨i,t,rfl,e⟩
 | .inr x,v,h=>by
  obtain ⟨t,e⟩:=KQ (x:=x) (v:=v) h;exact .inr ⟨x,t,rfl,e⟩
theorem xr (a b:Int):h_ ((KI a:Key)=KI b)=(a == b):=by
 by_cases e:a=b
 · subst e; simp
 · have h:¬ (KI a:Key)=KI b:=fun q=>e (Sum.inl.inj q);rw [decide_eq_false h];exact (beq_eq_false_iff_ne.mpr e).symm
theorem xt (a b:Str):h_ ((KH a:Key)=KH b)=h_ (a=b):=by
 by_cases e:a=b
 · subst e; simp
 · have h:¬ (KH a:Key)=KH b:=fun q=>e (Sum.inr.inj q);rw [decide_eq_false h,decide_eq_false e]
theorem xu (a:Int) (b:Str):h_ ((KI a:Key)=KH b)=c_:=decide_eq_false (fun q=>nomatch q)
theorem xx (a:Str) (b:Int):h_ ((KH a:Key)=KI b)=c_:=decide_eq_false (fun q=>nomatch q)
def nG (prog:pi) (w:EO):PySem.KeyKind prog w Key where
 is:=xq
 hash:=D4 w
 inj:=fun v a b ha hb=>by
  rcases bf ha with ⟨i,t,rfl,rfl⟩ | ⟨x,t,rfl,rfl⟩
  · rcases bf hb with ⟨j,u,rfl,e⟩ | ⟨y,u,rfl,e⟩
    · injection e with e1 _; rw [e1]
    · exact nomatch e
  · rcases bf hb with ⟨j,u,rfl,e⟩ | ⟨y,u,rfl,e⟩
    · exact nomatch e
    · injection e with e1 _; rw [e1]
 byValue:=fun k v h=>by
  rcases bf h with ⟨i,t,rfl,rfl⟩ | ⟨x,t,rfl,rfl⟩ <;> rfl
 pyHash:=fun hv h=>by
  rcases bf hv with ⟨i,t,rfl,rfl⟩ | ⟨x,t,rfl,rfl⟩
  · exact wpAny_pyHash_int h
  · exact wpAny_pyHash_str h
 eqBool:=fun hu hv h=>by
  rcases bf hu with ⟨i,t,rfl,rfl⟩ | ⟨x,t,rfl,rfl⟩
  · rcases bf hv with ⟨j,u,rfl,rfl⟩ | ⟨y,u,rfl,rfl⟩
    · rw [xr] at h; exact wpAny_eqBool_int h
    · rw [xu] at h; exact Lc i t y u _ _ _ _ h
  · rcases bf hv with ⟨j,u,rfl,rfl⟩ | ⟨y,u,rfl,rfl⟩
    · rw [xx] at h; exact Lb x t j u _ _ _ _ h
    · rw [xt] at h; exact wpAny_eqBool_str h
 «strs»:=fun k x t v h=>by
  rcases bf h with ⟨i,u,rfl,e⟩ | ⟨y,u,rfl,e⟩
  · exact nomatch e
  · injection e with e1 _;subst e1;cases v <;> rfl
inductive V where
 | non | bl (b:Bool) | int (i:Int) | str (x:Str) | byt (b:Array UInt8) | flt (b:UInt64) | ref (a:k_) | ty (n:String)
 deriving DecidableEq
def RelV:V→d_→Prop
 | .non,u=>u=FF
 | .bl b,u=>u=Gb b
 | .int i,u=>∃ t,u=LY i t
 | .str x,u=>∃ t,u=Hr x t
 | .byt b,u=>∃ t,u=Value.bytes b t
 | .flt b,u=>∃ t,u=Value.float b t
 | .ref a,u=>u=w_ a
 | .ty n,u=>u=Fb n
abbrev Vals:List V→List d_→Prop:=Paired RelV
theorem Vals.length {xs:List V} {us:List d_} (r:Vals xs us):xs.length=us.length:=Paired.length r
theorem Vals.get:∀ {xs:List V} {us:List d_} {i:Nat} {x:V},Vals xs us→xs[i]?=some x→∃ u,us[i]?=some u∧RelV x u
 | _,_,_,_,.nil,e=>by simp at e
 | _,_,0,_,.cons r _,e=>by simp at e; subst e; exact ⟨_,rfl,r⟩
 | _,_,i + 1,x,.cons _ t,e=>by
  obtain ⟨u,h1,h2⟩:=Vals.get (i:=i) (x:=x) t (by simpa using e);exact ⟨u,by simpa using h1,h2⟩
theorem Vals.set {x:V} {u:d_} (r:RelV x u):∀ {xs:List V} {us:List d_} (i:Nat),Vals xs us→Vals (xs.set i x) (us.set i u)
 | _,_,_,.nil=>.nil
 | _,_,0,.cons _ t=>.cons r t
 | _,_,i + 1,.cons q t=>.cons q (Vals.set r i t)
theorem Vals.append:∀ {xs ys:List V} {us ws:List d_},Vals xs us→Vals ys ws→Vals (xs ++ ys) (us ++ ws)
 | _,_,_,_,.nil,s=>s
 | _,_,_,_,.cons r t,s=>.cons r (Vals.append t s)
theorem Vals.take:∀ {xs:List V} {us:List d_} (n:Nat),Vals xs us→Vals (xs.take n) (us.take n)
 | _,_,0,_=>.nil
 | _,_,_ + 1,.nil=>.nil
 | _,_,n + 1,.cons r t=>.cons r (Vals.take n t)
theorem Vals.drop:∀ {xs:List V} {us:List d_} (n:Nat),Vals xs us→Vals (xs.drop n) (us.drop n)
 | _,_,0,r=>r
 | _,_,_ + 1,.nil=>.nil
 | _,_,n + 1,.cons _ t=>Vals.drop n t
def Bw:Option V→Option d_→Prop
 | some v,some u=>RelV v u
 | none,none=>True
 | _,_=>False
def KV {κ:Type}:List (κ×V)→List (κ×d_)→Prop:=Paired fun (p:κ×V) (q:κ×d_)=>p.1=q.1∧RelV p.2 q.2
def kV:Key→V
 | .inl i=>.int i
 | .inr x=>.str x
inductive HO where
 | lst (xs:List V)
 | tup (xs:List V)
 | dK (kvs:List (Key×V)) | dT (kvs:List (List Key×V))
 | set (S:Int→Bool) (n:Nat)
 | ins (C dx:k_) (fs:List (Str×V))
 | own (x:k_)
 | xd (fs:List (Str×V))
 | met (f x:k_)
 | rng (lo hi:Int)
 | frz (o:Obj) (u:HO)
 | tbl (ps:Array d_)
 | ext (φ:Fg→Prop)
abbrev Hp:=k_→Option HO
def upd (H:Hp) (a:k_) (o:HO):Hp:=fun b=>if b=a then some o else H b
theorem ar {H:Hp} {a:k_} {o:HO}:upd H a o a=some o:=by unfold upd; rw [if_pos rfl]
theorem ay {H:Hp} {a b:k_} {o:HO} (h:b≠a):upd H a o b=H b:=by unfold upd; rw [if_neg h]
theorem nH {H:Hp} {a:k_} {o u:HO}:upd (upd H a o) a u=upd H a u:=by
 funext b; unfold upd; split <;> rfl
theorem av {H:Hp} {a b:k_} {o:HO} (h:H a=some o) (h':H b=none):a≠b:=by
 intro e; subst e; rw [h] at h'; cases h'
section
variable (P:pi) (w:EO)
def ObjOk (H:Hp) (h:Fg) (a:k_):HO→Prop
 | .lst xs=>xs.length≤sizeLine∧∃ (its:List d_) (n:Nat),Vals xs its∧h.get? a=some { cls:=.type "list",data:=.seq its.toArray n }
 | .tup xs=>xs.length≤sizeLine∧∃ its:List d_,Vals xs its∧MF h a its.toArray
 | .dK kvs=>kvs.length≤sizeLine∧(a == sysModules)=c_∧∃ vs,KV kvs vs∧h.DictOf (nG P w) a vs
 | .dT kvs=>kvs.length≤sizeLine∧(a == sysModules)=c_∧∃ xs:List (List Key×k_×d_),
  Paired (fun (p:List Key×V) (q:List Key×k_×d_)=>p.1=q.1∧H q.2.1=some (.tup (p.1.map kV))∧RelV p.2 q.2.2) kvs xs ∧
  ∃ o es ep,h.get? a=some o∧o.ExactDict∧o.data=.dict es ep∧es.toList=xs.map (entryOfKey (tupleKind (nG P w)))∧(xs.map (·.1)).Nodup
 | .set S n=>h.SetOf (intKind P w) a S n
 | .ins C dx fs=>H dx=some (.own a)∧fs.length≤1000∧dx≠a∧h.get? a=some (GK C dx) ∧
  ∃ mA,h.Ns1 dx mA∧(∀ f,Bw (fs.lookup f) (mA f))∧PySem.Within mA (fs.map (·.1))
 | .own _=>∃ o,h.get? a=some o
 | .xd fs=>∃ mA,h.Ns1 a mA∧∀ f,Bw (fs.lookup f) (mA f)
 | .rng lo hi=>∃ t u v,h.get? a=some { cls:=.type "range",data:=.fields #[.int lo t,.int hi u,.int 1 v] }
 | .frz o u=>h.get? a=some o∧ObjOk H h a u
 | .tbl ps=>∃ qs:Array d_,h.get? a=some { cls:=.none,data:=.fields qs }∧TriplesOk qs.toList∧∀ pos v,codeAmong pos qs.toList=some v→∃ c oc vs q t t',v=.ref c∧H c=some (.frz oc (.ext fun _=>True))∧oc.data=.fields vs∧vs[1]?=some (.str q t)∧ps[0]?=some (.str q t')
 | .met f x=>h.get? a=some (Js (.ref f) (.ref x))
 | .ext φ=>φ h∧(∃ o,h.get? a=some o)∧∀ h1 h2:Fg,φ h1→(∀ o,h1.get? a=some o→h2.get? a=some o)→φ h2
def HOk (H:Hp) (h:Fg):Prop:=∀ a o,H a=some o→ObjOk P w H h a o
end
section
variable {P:pi} {w:EO} {H H':Hp} {h h':Fg} {a:k_} {o:HO}
theorem ObjOk.lt (x:ObjOk P w H h a o):a < h.objs.size:=by
 cases o with
 | lst xs=>obtain ⟨_,_,_,_,e⟩:=x; exact B_ e
 | tup xs=>obtain ⟨_,_,_,p⟩:=x; exact p.lt
 | dK kvs=>obtain ⟨_,_,_,_,o,_,_,e,_⟩:=x; exact B_ e
 | dT kvs=>obtain ⟨_,_,_,_,o,_,_,e,_⟩:=x; exact B_ e
 | set S n=>obtain ⟨o,_,_,_,e,_⟩:=x; exact B_ e
 | ins C dx fs=>obtain ⟨_,_,_,e,_⟩:=x; exact B_ e
 | own y=>obtain ⟨_,e⟩:=x; exact B_ e
 | xd fs=>obtain ⟨_,⟨_,_,_,e,_⟩,_⟩:=x; exact B_ e
 | rng lo hi=>obtain ⟨_,_,_,e⟩:=x; exact B_ e
 | frz ob u=>obtain ⟨e,_⟩:=x; exact B_ e
 | tbl ps=>obtain ⟨_,e,_⟩:=x; exact B_ e
 | met f y=>exact B_ (show h.get? a=some _ from x)
 | ext φ=>obtain ⟨_,⟨_,e⟩,_⟩:=x; exact B_ e
theorem Paired.mapP {α β:Type} {F G:α→β→Prop}:∀ {l₁:List α} {l₂:List β},Paired F l₁ l₂→(∀ a b,F a b→G a b)→Paired G l₁ l₂
 | _,_,.nil,_=>.nil
 | _,_,.cons r t,f=>.cons (f _ _ r) (Paired.mapP t f)
theorem ObjOk.stay (x:ObjOk P w H h a o) (k:∀ b u,(b=a∨H b=some (.own a))→h.get? b=some u→h'.get? b=some u)
 (ho:∀ b,H b=some (.own a)→H' b=some (.own a)) (ht:∀ b xs,H b=some (.tup xs)→H' b=some (.tup xs))
 (hf:∀ b o u,H b=some (.frz o u)→H' b=some (.frz o u):=by first | exact fun _ _ _ q=>q | (intro c _ _ q; rw [ay (av q (by assumption))]; exact q)):ObjOk P w H' h' a o:=by
 induction o with
 | lst xs=>obtain ⟨z,its,n,r,e⟩:=x; exact ⟨z,its,n,r,k _ _ (.inl rfl) e⟩
 | tup xs=>obtain ⟨z,its,r,ob,e,c⟩:=x; exact ⟨z,its,r,ob,k _ _ (.inl rfl) e,c⟩
 | dK kvs=>obtain ⟨z,y,vs,r,ob,es,ep,e,c⟩:=x; exact ⟨z,y,vs,r,ob,es,ep,k _ _ (.inl rfl) e,c⟩
 | dT kvs =>
  obtain ⟨z,y,xs,r,ob,es,ep,e,c⟩:=x;exact ⟨z,y,xs,Paired.mapP r fun p q z=>⟨z.1,ht _ _ z.2.1,z.2.2⟩,ob,es,ep,k _ _ (.inl rfl) e,c⟩
 | set S n=>obtain ⟨ob,es,ep,t,e,c⟩:=x; exact ⟨ob,es,ep,t,k _ _ (.inl rfl) e,c⟩
 | ins C dx fs =>
  obtain ⟨d,z,ne,e,mA,⟨od,es,ep,e2,c⟩,r⟩:=x;exact ⟨ho _ d,z,ne,k _ _ (.inl rfl) e,mA,⟨od,es,ep,k _ _ (.inr d) e2,c⟩,r⟩
 | own y=>obtain ⟨ob,e⟩:=x; exact ⟨ob,k _ _ (.inl rfl) e⟩
 | xd fs=>obtain ⟨mA,⟨od,es,ep,e,c⟩,r⟩:=x; exact ⟨mA,⟨od,es,ep,k _ _ (.inl rfl) e,c⟩,r⟩
 | rng lo hi=>obtain ⟨t,u,v,e⟩:=x; exact ⟨t,u,v,k _ _ (.inl rfl) e⟩
 | frz ob u ih=>obtain ⟨e,q⟩:=x; exact ⟨k _ _ (.inl rfl) e,ih q⟩
 | tbl ps =>
  obtain ⟨qs,e,tr,ch⟩:=x;exact ⟨qs,k a _ (.inl rfl) e,tr,fun pos v hv=>let ⟨c,oc,vs,q,t,t',e1,e2,r⟩:=ch pos v hv; ⟨c,oc,vs,q,t,t',e1,hf _ _ _ e2,r⟩⟩
 | met f y =>
  have e:h.get? a=some (Js (.ref f) (.ref y)):=x;show h'.get? a=some (Js (.ref f) (.ref y));exact k a _ (.inl rfl) e
 | ext φ=>obtain ⟨p,⟨o,e⟩,st⟩:=x; exact ⟨st _ _ p fun o q=>k _ _ (.inl rfl) q,⟨o,k _ _ (.inl rfl) e⟩,st⟩
theorem HOk.lt (x:HOk P w H h) (e:H a=some o):a < h.objs.size:=(x a o e).lt
theorem HOk.fresh (x:HOk P w H h) (e:h.objs.size≤a):H a=none:=by
 cases q:H a with
 | none=>rfl
 | some u=>exact absurd (y_ (x.lt q) e) (Gj _)
theorem HOk.kept (x:HOk P w H h) (k:∀ b u,h.get? b=some u→h'.get? b=some u):HOk P w H h':=fun a o e =>
 (x a o e).stay (fun b u _ q=>k b u q) (fun _ q=>q) fun _ _ q=>q
theorem HOk.laid (x:HOk P w H h) (k:∀ b u,h.get? b=some u→h'.get? b=some u) (hp:h.objs.size≤a) (new:ObjOk P w (upd H a o) h' a o):HOk P w (upd H a o) h':=fun b u e=>by
 have hn:=x.fresh hp;by_cases hb:b=a
 · subst hb; rw [ar] at e; cases e; exact new
 · rw [ay hb] at e;exact (x b u e).stay (fun c v _ q=>k c v q) (fun c q=>by rw [ay (av q hn)]; exact q) fun c xs q=>by rw [ay (av q hn)]; exact q
end
def Rd (H:Hp) (a:k_) (u:HO):Prop:=H a=some u∨∃ o,H a=some (.frz o u)
theorem Rd.of {H:Hp} {a:k_} {u:HO} (h:H a=some u):Rd H a u:=.inl h
theorem Rd.ok {P:pi} {w:EO} {H:Hp} {h:Fg} {a:k_} {u:HO} (r:Rd H a u) (x:HOk P w H h):ObjOk P w H h a u:=by
 rcases r with r | ⟨o,r⟩
 · exact x a u r
 · obtain ⟨_,q⟩:=x a _ r;exact q
def Mut:Option HO→Prop
 | some (.lst _)=>True
 | some (.dK _)=>True
 | some (.dT _)=>True
 | some (.set _ _)=>True
 | some (.ins _ _ _)=>True
 | some (.ext _)=>True
 | _=>False
section
variable {P:pi} {w:EO} {H:Hp} {h h':Fg} {x e:k_} {o':HO}
theorem HOk.write (ok:HOk P w H h) (mu:Mut (H x)) (he:e=x∨H e=some (.own x)) (k:∀ b u,b≠e→h.get? b=some u→h'.get? b=some u) (heo:∃ u,h'.get? e=some u)
 (new:ObjOk P w (upd H x o') h' x o'):HOk P w (upd H x o') h':=fun b u q=>by
 have nown:∀ c y,H c=some (.own y)→c≠x:=fun c y r z=>by subst z; rw [r] at mu; exact mu
 have ntup:∀ c xs,H c=some (.tup xs)→c≠x:=fun c xs r z=>by subst z; rw [r] at mu; exact mu
 by_cases hb:b=x
 · subst hb; rw [ar] at q; cases q; exact new
 · rw [ay hb] at q;by_cases hbe:b=e
   · have q':H b=some (.own x):=by
      rcases he with z | z
      · exact absurd (hbe.trans z) hb
      · rw [hbe]; exact z
     rw [q] at q'; cases q';obtain ⟨v,hv⟩:=heo;exact ⟨v,by rw [hbe]; exact hv⟩
   · refine (ok b u q).stay (fun c v hc r=>k c v ?_ r) (fun c r=>by rw [ay (nown c b r)]; exact r) (fun c xs r=>by rw [ay (ntup c xs r)]; exact r) fun c _ _ r=>by rw [ay (fun z=>by subst z; rw [r] at mu; exact mu)]; exact r
     rcases hc with rfl | hc
     · exact hbe
     · rintro rfl;rcases he with z | z
       · exact nown c b hc z
       · rw [hc] at z; cases z; exact hb rfl
end
structure Un (fs ex:List k_) (H H':Hp) (h h':Fg):Prop where
 keep:∀ b o,h.get? b=some o→H b=none→b ∉ fs→b ∉ ex→h'.get? b=some o
 slot:∀ b o,h.get? b=some o→H b=none→b∈fs→b ∉ ex→∃ sl,h'.get? b=some { o with slots:=sl }
 free:∀ b o,h.get? b=some o→H b=none→b ∉ ex→H' b=none
 there:∀ b o,h.get? b=some o→b ∉ ex→∃ o',h'.get? b=some o'
 tups:∀ b xs,H b=some (.tup xs)→H' b=some (.tup xs)
 frzs:∀ b o u,H b=some (.frz o u)→H' b=some (.frz o u)
 tbls:∀ b ps,H b=some (.tbl ps)→∃ more,H' b=some (.tbl (ps ++ more))
section
variable {fs fs' ex ex':List k_} {H H1 H2:Hp} {h h1 h2 h':Fg} {a x e:k_} {o:HO}
theorem Un.any (u:Un fs ex H H1 h h1) {b:k_} {ob:Obj} (q:h.get? b=some ob) (n:H b=none) (hx:b ∉ ex):∃ sl,h1.get? b=some { ob with slots:=sl }:=by
 by_cases hb:b∈fs
 · exact u.slot b ob q n hb hx
 · exact ⟨ob.slots,u.keep b ob q n hb hx⟩
theorem Un.trans (a:Un fs ex H H1 h h1) (b:Un fs ex H1 H2 h1 h2):Un fs ex H H2 h h2 where
 keep:=fun c ob q n hc hx=>b.keep c ob (a.keep c ob q n hc hx) (a.free c ob q n hx) hc hx
 slot:=fun c ob q n hc hx=>by
  obtain ⟨sl,e1⟩:=a.slot c ob q n hc hx;obtain ⟨sl',e2⟩:=b.slot c _ e1 (a.free c ob q n hx) hc hx;exact ⟨sl',e2⟩
 free:=fun c ob q n hx=>by
  obtain ⟨o',e1⟩:=a.there c ob q hx;exact b.free c o' e1 (a.free c ob q n hx) hx
 there:=fun c ob q hx=>by
  obtain ⟨o',e1⟩:=a.there c ob q hx;exact b.there c o' e1 hx
 tups:=fun c xs q=>b.tups c xs (a.tups c xs q)
 frzs:=fun c ob xs q=>b.frzs c ob xs (a.frzs c ob xs q)
 tbls:=fun c ps q=>by
  obtain ⟨m1,e1⟩:=a.tbls c ps q;obtain ⟨m2,e2⟩:=b.tbls c _ e1;exact ⟨m1 ++ m2,by rw [e2,Lr]⟩
theorem Un.kept (k:∀ b u,h.get? b=some u→h'.get? b=some u):Un fs ex H H h h' :=
 ⟨fun b ob q _ _ _=>k b ob q,fun b ob q _ _ _=>⟨ob.slots,k b ob q⟩,fun _ _ _ n _=>n,fun b ob q _=>⟨ob,k b ob q⟩,fun _ _ q=>q,fun _ _ _ q=>q,fun _ ps q=>⟨#[],by rw [q]; simp⟩⟩
theorem Un.refl:Un fs ex H H h h:=Un.kept fun _ _ q=>q
theorem Un.laid (k:∀ b u,h.get? b=some u→h'.get? b=some u) (hp:h.objs.size≤a) (hn:H a=none):Un fs ex H (upd H a o) h h' where
 keep:=fun b u q _ _ _=>k b u q
 slot:=fun b u q _ _ _=>⟨u.slots,k b u q⟩
 free:=fun b u q n _=>by rw [ay (Fy (y_ (B_ q) hp))]; exact n
 there:=fun b u q _=>⟨u,k b u q⟩
 tups:=fun b xs q=>by rw [ay (av q hn)]; exact q
 frzs:=fun b u xs q=>by rw [ay (av q hn)]; exact q
 tbls:=fun b ps q=>⟨#[],by rw [ay (av q hn),q]; simp⟩
theorem Un.write (mu:Mut (H x)) (he:e=x∨H e=some (.own x)) (k:∀ b u,b≠e→h.get? b=some u→h'.get? b=some u) (heo:∃ u,h'.get? e=some u):Un fs ex H (upd H x o) h h':=by
 have hx:∀ b,H b=none→b≠x:=fun b n z=>by subst z; rw [n] at mu; exact mu
 have hb:∀ b,H b=none→b≠e:=fun b n z=>by
  subst z;rcases he with r | r
  · exact hx b n r
  · rw [n] at r; cases r
 have hm:∀ b u,H b=some u→¬ Mut (some u)→b≠x:=fun b u q nm z=>by subst z; rw [q] at mu; exact nm mu
 refine ⟨fun b u q n _ _=>k b u (hb b n) q,fun b u q n _ _=>⟨u.slots,k b u (hb b n) q⟩,fun b u q n _=>by rw [ay (hx b n)]; exact n,fun b u q _=>?_,
  fun b xs q=>by rw [ay (hm b _ q fun z=>z)]; exact q,fun b u xs q=>by rw [ay (hm b _ q fun z=>z)]; exact q,fun b ps q=>⟨#[],by rw [ay (hm b _ q fun z=>z),q]; simp⟩⟩
 by_cases hbe:b=e
 · subst hbe; exact heo
 · exact ⟨u,k b u hbe q⟩
theorem Un.mono (u:Un fs ex H H1 h h1) (hs:∀ b∈fs,b∈fs') (hx:∀ b∈ex,b∈ex'):Un fs' ex' H H1 h h1 :=
 ⟨fun b ob q n hb he=>u.keep b ob q n (fun z=>hb (hs b z)) fun z=>he (hx b z),fun _ _ q n _ he=>u.any q n fun z=>he (hx _ z),fun b ob q n he=>u.free b ob q n fun z=>he (hx b z),fun b ob q he=>u.there b ob q fun z=>he (hx b z),u.tups,u.frzs,u.tbls⟩
end
def trk (h:Fg) (H:Hp):List k_:=(l_ h.objs.size).filter fun a=>(H a).isSome
def qQ (h:Fg) (H:Hp):Fg:=Ml h (trk h H)
theorem nI (h:Fg) (H:Hp):(qQ h H).objs.size=h.objs.size:=PySem.W.hideAll_size _ _
theorem qR {h:Fg} {H:Hp} {b:k_} {o:Obj} (e:h.get? b=some o) (n:H b=none):(qQ h H).get? b=some o :=
 II _ e fun hm=>by
  have q:(H b).isSome=b_:=(HE.mp hm).2;rw [n] at q; simp at q
theorem uy {h:Fg} {H:Hp} {b:k_} {o:Obj} (e:(qQ h H).get? b=some o):h.get? b=some o∧H b=none:=by
 have e':h.get? b=some o:=G6 (trk h H) e;refine ⟨e',?_⟩;cases q:H b with
 | none=>rfl
 | some x =>
  have hm:b∈trk h H:=HE.mpr ⟨Fd.mpr (B_ e'),by simp [q]⟩;have z:(qQ h H).get? b=none:=Ge (trk h H) hm;rw [z] at e; cases e
def uz (g h:Fg) (L:k_):List (k_×Obj):=(l_ h.objs.size).filterMap fun a=>if a=L∨(g.get? a).isSome=b_ then none else (h.get? a).map fun o=>(a,o)
def rest (g h:Fg) (L d:k_):List (k_×Obj):=(uz g h L).filter fun p=>h_ (p.1≠d)
structure Mod (K:ck) (mg:Str→Option d_) (base:Fg):Prop where
 kin:K.In base
 glob:base.Ns x_ mg
 blt:∃ mb,base.Ns K_ mb∧∀ x:Str,x≠"__name__"→mb x=F9 x
 nolimit:base.NoLimit
structure Cx where
 prog:pi
 w:EO
 K:ck
 mg:Str→Option d_
 base:Fg
 A:EQ
 N:List Str
 s₀:e_
 H₀:Hp
 env:Env
 outer:List Env
 stack:List Env
 ex:List k_
 fn:Str→Bool
 calm:Bool
 pn:List (k_×Obj)
 xe:d_→e_→Prop
def frs (l:List Env):List k_:=l.filterMap (·.frame)
abbrev Cx.fs (X:Cx):List k_:=frs X.outer
def Vis (sc:GB) (x:Str):Prop:=sc.names.lookup x=some .local∨sc.names.lookup x=some .cell∨sc.names.lookup x=some .free
def Loc (sc:GB) (x:Str):Prop:=sc.names.lookup x=some .local∨sc.names.lookup x=some .cell
def D6 (env:Env) (h:Fg) (m:Str→Option d_) (x:Str) (u:d_):Prop :=
 (env.kindOf x=some .local∧m x=some u)∨((env.kindOf x=some .cell∨env.kindOf x=some .free)∧∃ c,env.cells.lookup x=some c∧h.IsCell c (some u))
structure Cx.Ok (X:Cx):Prop where
 mod:Mod X.K X.mg X.base
 kind:X.env.scope.kind=.function
 glob:X.env.globals=x_
 blt:X.env.builtins=K_
 above:X.s₀.heap.objs.size≤X.env.locals
 inj:∀ x y c,X.env.cells.lookup x=some c→X.env.cells.lookup y=some c→x=y
 has:∀ x,(X.env.kindOf x=some .cell∨X.env.kindOf x=some .free)→∃ c,X.env.cells.lookup x=some c
 cab:∀ x c,X.fn x=b_→X.env.cells.lookup x=some c→X.s₀.heap.objs.size≤c
 hd:X.calm=b_→X.A.handled=none
 frames:X.A.frames=some X.stack
 stk:X.stack=X.outer∨(X.stack=X.env :: X.outer∧X.env.frame=some X.env.locals)
 exf:∀ b∈X.ex,b≠X.env.locals∧∀ x c,X.env.cells.lookup x=some c→c≠b
 bs:∀ b o,X.base.get? b=some o→X.s₀.heap.get? b=some o∧X.H₀ b=none
 bsz:X.base.objs.size≤X.s₀.heap.objs.size
 noex:∀ b o,X.base.get? b=some o→b ∉ X.ex
 exfs:∀ b∈X.ex,b ∉ X.fs
 funs:X.s₀.heap.FunFrames X.base X.outer
 frf:∀ b∈X.fs,X.H₀ b=none
structure Inv (X:Cx) (f':List (k_×Obj)) (σ:List (Option V)) (H:Hp) (s:e_):Prop where
 ok:X.Ok
 os:s.os=X.s₀.os
 bare:IT s.gens
 base:Un X.fs X.ex X.H₀ H X.s₀.heap s.heap
 loc:∃ m,s.heap.Ns X.env.locals m∧∀ (i:Nat) (x:Str) (v:V),X.N[i]?=some x→σ[i]?=some (some v)→Vis X.env.scope x→∃ u,RelV v u∧D6 X.env s.heap m x u
 cell:∀ x c,X.env.cells.lookup x=some c→∃ v,s.heap.IsCell c v
 free:H X.env.locals=none
 freeC:∀ x c,X.env.cells.lookup x=some c→H c=none
 pin:∀ p∈X.pn ++ f',s.heap.get? p.1=some p.2∧H p.1=none∧p.1≠X.env.locals∧p.1 ∉ X.fs∧∀ v,p.2.data≠.cell v
 hok:HOk X.prog X.w H s.heap
 len:σ.length=X.N.length
section
variable {X:Cx} {f':List (k_×Obj)} {σ:List (Option V)} {H H':Hp} {s:e_} {h':Fg}
theorem Cx.Ok.nofr (ok:X.Ok) {b:k_} {o:Obj} (e:X.base.get? b=some o):b ∉ X.fs:=fun hb=>by
 have:=(ok.funs.mem hb).1;rw [e] at this; cases this
theorem Inv.bs (I:Inv X f' σ H s):∀ b o,X.base.get? b=some o→s.heap.get? b=some o∧H b=none:=fun b o e =>
 ⟨I.base.keep b o (I.ok.bs b o e).1 (I.ok.bs b o e).2 (I.ok.nofr e) (I.ok.noex b o e),I.base.free b o (I.ok.bs b o e).1 (I.ok.bs b o e).2 (I.ok.noex b o e)⟩
theorem Inv.bk (I:Inv X f' σ H s):∀ b o,X.base.get? b=some o→s.heap.get? b=some o:=fun b o e=>(I.bs b o e).1
theorem Inv.mod (I:Inv X f' σ H s):Mod X.K X.mg X.base:=I.ok.mod
theorem Inv.kIn (I:Inv X f' σ H s):X.K.In s.heap:=I.ok.mod.kin.keeps I.bk
theorem Inv.nolimit (I:Inv X f' σ H s):s.heap.NoLimit:=I.ok.mod.nolimit.keeps I.bk
theorem Inv.lt (I:Inv X f' σ H s):X.env.locals < s.heap.objs.size:=let ⟨_,hn,_⟩:=I.loc; hn.lt
theorem Inv.sz (I:Inv X f' σ H s):X.s₀.heap.objs.size≤s.heap.objs.size:=EW I.ok.above (Ia I.lt)
theorem Inv.nofs (I:Inv X f' σ H s) {a:k_} (h:s.heap.objs.size≤a):a ∉ X.fs:=fun hb=>by
 obtain ⟨_,o,ho,_⟩:=I.ok.funs.mem hb;exact absurd (y_ (B_ ho) (EW I.sz h)) (Gj _)
theorem Inv.cne (I:Inv X f' σ H s):∀ x c,X.env.cells.lookup x=some c→c≠X.env.locals:=fun x c e z=>by
 obtain ⟨v,o,ho,hd⟩:=I.cell x c e;obtain ⟨m,⟨o',es,ep,ho',hd',_⟩,_⟩:=I.loc;rw [z,ho'] at ho; cases ho; rw [hd'] at hd; cases hd
theorem Inv.funs (I:Inv X f' σ H s):s.heap.FunFrames X.base X.outer:=by
 have all:∀ (l:List Env),(∀ b∈frs l,b∈X.fs)→X.s₀.heap.FunFrames X.base l→s.heap.FunFrames X.base l:=by
  intro l
  induction l with
  | nil=>intro _ _; trivial
  | cons env r ih =>
   intro hs hl;obtain ⟨hk,⟨L,o,hf,hn,ho,hd⟩,hr⟩:=hl;have hL:L∈X.fs:=hs L (by unfold frs; rw [Gp,hf]; exact g_);obtain ⟨sl,e⟩:=I.base.slot L o ho (I.ok.frf L hL) hL fun z=>I.ok.exfs L z hL;exact ⟨hk,⟨L,_,hf,hn,e,hd⟩,ih (fun b hb=>hs b (by unfold frs; rw [Gp,hf]; exact f_ _ hb)) hr⟩
 exact all X.outer (fun _ hb=>hb) I.ok.funs
theorem Inv.stack (I:Inv X f' σ H s):s.heap.FunFrames X.base X.stack:=by
 rcases I.ok.stk with e | ⟨e,hf⟩
 · rw [e]; exact I.funs
 · rw [e];obtain ⟨m,hn,_⟩:=I.loc;refine .cons (by rw [I.ok.kind]; decide) hf hn ?_ I.funs;exact Heap.get?_none_of_le (EW I.ok.bsz I.ok.above)
theorem Inv.stkSub (I:Inv X f' σ H s):∀ b∈frs X.stack,b∈X.env.locals :: X.fs:=fun b hb=>by
 rcases I.ok.stk with e | ⟨e,hf⟩
 · rw [e] at hb; exact f_ _ hb
 · rw [e] at hb;unfold frs at hb;rw [Gp,hf] at hb;exact hb
theorem Inv.stkFree (I:Inv X f' σ H s):∀ b∈frs X.stack,H b=none:=fun b hb=>by
 rcases q_.mp (I.stkSub b hb) with e | hb
 · rw [e]; exact I.free
 · obtain ⟨_,o,ho,_⟩:=I.ok.funs.mem hb;exact I.base.free b o ho (I.ok.frf b hb) fun z=>I.ok.exfs b z hb
theorem Inv.step {g':Array Je} {t':Nat} {d':Drawn} {ch:List k_} (I:Inv X f' σ H s)
 (hch:∀ b∈ch,(b∈X.ex∨X.s₀.heap.objs.size≤b)∧b≠X.env.locals∧(∀ x c,X.env.cells.lookup x=some c→c≠b)∧∀ p∈X.pn ++ f',p.1≠b)
 (keep:∀ b o,b≠X.env.locals→b ∉ X.fs→b ∉ ch→s.heap.get? b=some o→H b=none→h'.get? b=some o)
 (slot:∀ b o,b≠X.env.locals→b∈X.fs→b ∉ ch→s.heap.get? b=some o→H b=none→∃ sl,h'.get? b=some { o with slots:=sl }) (free:∀ b o,b ∉ ch→s.heap.get? b=some o→H b=none→H' b=none)
 (there:∀ b o,b ∉ ch→s.heap.get? b=some o→∃ o',h'.get? b=some o')
 (tups:∀ b xs,H b=some (.tup xs)→H' b=some (.tup xs)) (frzs:∀ b o u,H b=some (.frz o u)→H' b=some (.frz o u)) (tbls:∀ b ps,H b=some (.tbl ps)→∃ more,H' b=some (.tbl (ps ++ more)))
 (ns:∀ m,s.heap.Ns X.env.locals m→h'.Ns X.env.locals m) (hok:HOk X.prog X.w H' h') (hg:IT g') :
 Inv X f' σ H' { s with heap:=h',gens:=g',drawn:=d',toks:=t' }:=by
 have neL:∀ b o,X.s₀.heap.get? b=some o→b≠X.env.locals:=fun b o e=>Fy (y_ (B_ e) I.ok.above);have neC:∀ b o,X.s₀.heap.get? b=some o→b ∉ X.ex→b ∉ ch:=fun b o e hx hb=>by
  rcases (hch b hb).1 with z | z
  · exact hx z
  · exact absurd (y_ (B_ e) z) (Gj _)
 have cellK:∀ x c,X.env.cells.lookup x=some c→∀ v,s.heap.IsCell c v→h'.IsCell c v:=fun x c e v ⟨o,ho,hd⟩=>by
  have nch:c ∉ ch:=fun z=>(hch c z).2.2.1 x c e rfl;by_cases hc:c∈X.fs
  · obtain ⟨sl,q⟩:=slot c o (I.cne x c e) hc nch ho (I.freeC x c e);exact ⟨_,q,hd⟩
  · exact ⟨o,keep c o (I.cne x c e) hc nch ho (I.freeC x c e),hd⟩
 refine ⟨I.ok,I.os,hg,⟨fun b o e n hb hx=>?_,fun b o e n hb hx=>?_,fun b o e n hx=>?_,fun b o e hx=>?_,fun b xs e=>tups b xs (I.base.tups b xs e),fun b o xs e=>frzs b o xs (I.base.frzs b o xs e),fun b ps e=>?_⟩,?_,fun x c e=>?_,?_,fun x c e=>?_,fun p hp=>?_,hok,I.len⟩
 · exact keep b o (neL b o e) hb (neC b o e hx) (I.base.keep b o e n hb hx) (I.base.free b o e n hx)
 · obtain ⟨sl,e1⟩:=I.base.slot b o e n hb hx;obtain ⟨sl',e2⟩:=slot b _ (neL b o e) hb (neC b o e hx) e1 (I.base.free b o e n hx);exact ⟨sl',e2⟩
 · obtain ⟨o',e1⟩:=I.base.there b o e hx;exact free b o' (neC b o e hx) e1 (I.base.free b o e n hx)
 · obtain ⟨o',e1⟩:=I.base.there b o e hx;exact there b o' (neC b o e hx) e1
 · obtain ⟨m1,e1⟩:=I.base.tbls b ps e;obtain ⟨m2,e2⟩:=tbls b _ e1;exact ⟨m1 ++ m2,by rw [e2,Lr]⟩
 · obtain ⟨m,hn,hl⟩:=I.loc;refine ⟨m,ns m hn,fun i x v e1 e2 e3=>?_⟩;obtain ⟨u,r,l⟩:=hl i x v e1 e2 e3;refine ⟨u,r,?_⟩;rcases l with l | ⟨k,c,e,z⟩
   · exact .inl l
   · exact .inr ⟨k,c,e,cellK x c e _ z⟩
 · obtain ⟨v,z⟩:=I.cell x c e;exact ⟨v,cellK x c e v z⟩
 · obtain ⟨m,⟨o,_,_,ho,_⟩,_⟩:=I.loc;exact free _ o (fun z=>(hch _ z).2.1 rfl) ho I.free
 · obtain ⟨v,o,ho,hd⟩:=I.cell x c e;exact free c o (fun z=>(hch c z).2.2.1 x c e rfl) ho (I.freeC x c e)
 · obtain ⟨e,n,ne,nf,d⟩:=I.pin p hp;have nch:p.1 ∉ ch:=fun z=>(hch p.1 z).2.2.2 p hp rfl;exact ⟨keep p.1 p.2 ne nf nch e n,free p.1 p.2 nch e n,ne,nf,d⟩
theorem Inv.un {t':Nat} (I:Inv X f' σ H s) (u:Un X.fs [] H H' s.heap h') (hok:HOk X.prog X.w H' h'):Inv X f' σ H' { s with heap:=h',toks:=t' }:=by
 obtain ⟨m,⟨o,es,ep,ho,r⟩,_⟩:=id I.loc;obtain ⟨sl,hL⟩:=u.any ho I.free (by simp);exact I.step (g':=s.gens) (d':=s.drawn) (ch:=[]) (fun _ z=>nomatch z) (fun b o _ hb _ e n=>u.keep b o e n hb (by simp)) (fun b o _ hb _ e n=>u.slot b o e n hb (by simp)) (fun b o _ e n=>u.free b o e n (by simp)) (fun b o _ e=>u.there b o e (by simp)) u.tups u.frzs u.tbls (fun m' hm=>by
  obtain ⟨o',es',ep',ho',r'⟩:=hm;rw [ho] at ho'; cases ho';exact ⟨_,es',ep',hL,r'⟩) hok I.bare
theorem Inv.call {g':Array Je} {t':Nat} {d':Drawn} {ch:List k_} (I:Inv X f' σ H s) (u:Un (frs X.stack) ch H H' s.heap h') (hok:HOk X.prog X.w H' h') (hg:IT g')
 (hch:∀ b∈ch,(b∈X.ex∨X.s₀.heap.objs.size≤b)∧b≠X.env.locals∧(∀ x c,X.env.cells.lookup x=some c→c≠b)∧∀ p∈X.pn ++ f',p.1≠b) :
 Inv X f' σ H' { s with heap:=h',gens:=g',drawn:=d',toks:=t' }:=by
 obtain ⟨m,⟨o,es,ep,ho,r⟩,_⟩:=id I.loc;obtain ⟨sl,hL⟩:=u.any ho I.free fun z=>(hch _ z).2.1 rfl;exact I.step (ch:=ch) hch (fun b o hL hb hc e n=>u.keep b o e n (fun z=>(q_.mp (I.stkSub b z)).elim hL hb) hc) (fun b o _ _ hc e n=>u.any e n hc) (fun b o hc e n=>u.free b o e n hc) (fun b o hc e=>u.there b o e hc) u.tups u.frzs u.tbls (fun m' hm=>by
  obtain ⟨o',es',ep',ho',r'⟩:=hm;rw [ho] at ho'; cases ho';exact ⟨_,es',ep',hL,r'⟩) hok hg
theorem Inv.turned {t':Nat} {it:k_} (I:Inv X f' σ H s) (k:∀ b o,b≠it→s.heap.get? b=some o→h'.get? b=some o) (hn:H it=none) (hL:it≠X.env.locals)
 (h1:it∈X.ex∨X.s₀.heap.objs.size≤it) (h2:∀ x c,X.env.cells.lookup x=some c→c≠it) (h3:∀ p∈X.pn ++ f',p.1≠it):Inv X f' σ H { s with heap:=h',toks:=t' }:=by
 have nit:∀ b u,H b=some u→b≠it:=fun b u e z=>by rw [z,hn] at e; cases e
 refine I.step (g':=s.gens) (d':=s.drawn) (ch:=[it]) (fun b hb=>?_) (fun b o _ _ hc e _=>k b o (fun z=>hc (by simp [z])) e) (fun b o _ _ hc e _=>⟨o.slots,k b o (fun z=>hc (by simp [z])) e⟩) (fun _ _ _ _ n=>n)
  (fun b o hc e=>⟨o,k b o (fun z=>hc (by simp [z])) e⟩) (fun _ _ e=>e) (fun _ _ _ e=>e) (fun b ps e=>⟨#[],by rw [e]; simp⟩) (fun m hm=>?_) (fun b u e=>?_) I.bare
 · have e:b=it:=by simpa using hb
   subst e;exact ⟨h1,hL,h2,h3⟩
 · obtain ⟨o,es,ep,ho,r⟩:=hm;exact ⟨o,es,ep,k _ o (HC hL) ho,r⟩
 · refine (I.hok b u e).stay (fun c v hc q=>k c v ?_ q) (fun _ q=>q) fun _ _ q=>q;rcases hc with z | z
   · rw [z]; exact nit b u e
   · exact nit c _ z
theorem Inv.tok (I:Inv X f' σ H s) (t:Nat):Inv X f' σ H { s with toks:=t }:=I.un (h':=s.heap) (t':=t) Un.refl I.hok
theorem Inv.kept {t':Nat} (I:Inv X f' σ H s) (k:∀ b u,s.heap.get? b=some u→h'.get? b=some u):Inv X f' σ H { s with heap:=h',toks:=t' }:=I.un (Un.kept k) (I.hok.kept k)
theorem Inv.laid {a:k_} {o:HO} {t':Nat} (I:Inv X f' σ H s) (k:∀ b u,s.heap.get? b=some u→h'.get? b=some u) (hp:s.heap.objs.size≤a) (new:ObjOk X.prog X.w (upd H a o) h' a o) :
 Inv X f' σ (upd H a o) { s with heap:=h',toks:=t' }:=I.un (Un.laid k hp (I.hok.fresh hp)) (I.hok.laid k hp new)
theorem Inv.write {x e:k_} {o:HO} {t':Nat} (I:Inv X f' σ H s) (mu:Mut (H x)) (he:e=x∨H e=some (.own x)) (k:∀ b u,b≠e→s.heap.get? b=some u→h'.get? b=some u) (heo:∃ u,h'.get? e=some u)
 (new:ObjOk X.prog X.w (upd H x o) h' x o):Inv X f' σ (upd H x o) { s with heap:=h',toks:=t' }:=I.un (Un.write mu he k heo) (I.hok.write mu he k heo new)
theorem Inv.pins_of {pins':List (k_×Obj)} (I:Inv X f' σ H s) (h:∀ p∈pins',s.heap.get? p.1=some p.2∧H p.1=none∧p.1≠X.env.locals∧p.1 ∉ X.fs∧∀ v,p.2.data≠.cell v):Inv X pins' σ H s :=
 ⟨I.ok,I.os,I.bare,I.base,I.loc,I.cell,I.free,I.freeC,fun p hp=>(t_.mp hp).elim (fun z=>I.pin p (ET _ z)) (h p),I.hok,I.len⟩
theorem iQ {N:List Str} (hN:N.Nodup) {i j:Nat} {x:Str} (a:N[i]?=some x) (b:N[j]?=some x):i=j:=by
 obtain ⟨h1,e1⟩:=E_.mp a;obtain ⟨h2,e2⟩:=E_.mp b;exact (List.getElem_inj hN).mp (e1.trans e2.symm)
theorem nJ {M:K4} {A:EQ} {E:d_→e_→Prop} {i:Nat} {x:Str} {v:V} {u:d_} {Q:Unit→e_→Prop} (I:Inv X f' σ H s) (hN:X.N.Nodup) (hi:X.N[i]?=some x) (hx:Loc X.env.scope x) (r:RelV v u)
 (h:∀ s',Inv X f' (σ.set i (some v)) H s'→(∃ a,IQ a s.heap s'.heap∧(a=X.env.locals∨X.env.cells.lookup x=some a))→Q () s') (hf:X.fn x=b_∨X.env.scope.names.lookup x=some .local:=by first | exact .inl rfl | exact .inr rfl | assumption):C_ M A (storeName X.env x u) Q E s:=by
 obtain ⟨m,hn,hl⟩:=id I.loc;have hcls:(X.env.scope.kind == .class || (X.env.scope.kind == .module && X.env.locals != X.env.globals))=c_:=by rw [I.ok.kind]; rfl
 have hiσ:i < σ.length:=by rw [I.len]; exact (E_.mp hi).1
 have cne:=I.cne;have tracked:∀ {a:k_} {h':Fg},(∃ o,s.heap.get? a=some o∧H a=none)→IQ a s.heap h'→HOk X.prog X.w H h':=fun {a h'} ha hs b ob e=>by
  obtain ⟨_,_,hfree⟩:=ha;refine (I.hok b ob e).stay (fun c w' hc q=>(hs.2 c ?_).trans q) (fun _ q=>q) fun _ _ q=>q;rintro rfl;rcases hc with rfl | hc
  · rw [hfree] at e; cases e
  · rw [hfree] at hc; cases hc
 rcases hx with hk | hk
 · refine wpAny_storeName_local hk hn (fun h' hn' hs=>?_) hcls;obtain ⟨oL,_,_,hoL,_⟩:=id hn;refine h _ ⟨I.ok,I.os,I.bare,⟨fun b o e n hb hx=>?_,fun b o e n hb hx=>?_,I.base.free,fun b o e hx=>?_,I.base.tups,I.base.frzs,I.base.tbls⟩,⟨_,hn',fun j y v' e1 e2 e3=>?_⟩,fun y c e=>?_,I.free,I.freeC,fun p hp=>?_,tracked ⟨oL,hoL,I.free⟩ hs,by simpa using I.len⟩ ⟨_,hs,.inl rfl⟩
   · exact (hs.2 b (Fy (y_ (B_ e) I.ok.above))).trans (I.base.keep b o e n hb hx)
   · obtain ⟨sl,e1⟩:=I.base.slot b o e n hb hx;exact ⟨sl,(hs.2 b (Fy (y_ (B_ e) I.ok.above))).trans e1⟩
   · obtain ⟨o',e1⟩:=I.base.there b o e hx;exact ⟨o',(hs.2 b (Fy (y_ (B_ e) I.ok.above))).trans e1⟩
   · by_cases hj:j=i
     · subst hj;rw [hi] at e1; cases e1;rw [E7 hiσ] at e2;cases e2;exact ⟨u,r,.inl ⟨hk,by simp⟩⟩
     · rw [EU (HC hj)] at e2;obtain ⟨u',r',q⟩:=hl j y v' e1 e2 e3;refine ⟨u',r',?_⟩;rcases q with ⟨k,e⟩ | ⟨k,c,e,z⟩
       · refine .inl ⟨k,?_⟩;have:y≠x:=fun e=>hj (iQ hN e1 (e ▸ hi));simp [this,e]
       · exact .inr ⟨k,c,e,z.sameBut hs (cne y c e)⟩
   · obtain ⟨w',z⟩:=I.cell y c e;exact ⟨w',z.sameBut hs (cne y c e)⟩
   · obtain ⟨e,n,ne,nf,d⟩:=I.pin p hp;exact ⟨(hs.2 p.1 ne).trans e,n,ne,nf,d⟩
 · have hfn:X.fn x=b_:=by
    rcases hf with z | z
    · exact z
    · rw [z] at hk; cases hk
   obtain ⟨c,hc⟩:=I.ok.has x (.inl hk);obtain ⟨w',z⟩:=I.cell x c hc;refine wpAny_storeName_cell I.ok.kind hk hc z (fun h' hc' hs=>?_);obtain ⟨oc,hoc,hocd⟩:=id z;refine h { s with heap:=h' } ⟨I.ok,I.os,I.bare,⟨fun b o e n hb hx=>?_,fun b o e n hb hx=>?_,I.base.free,fun b o e hx=>?_,I.base.tups,I.base.frzs,I.base.tbls⟩,⟨m,hn.sameBut hs (HC (cne x c hc)),fun j y v' e1 e2 e3=>?_⟩,fun y c' e=>?_,I.free,I.freeC,fun p hp=>?_,tracked ⟨oc,hoc,I.freeC x c hc⟩ hs,by simpa using I.len⟩ ⟨c,hs,.inr hc⟩
   · exact (hs.2 b (Fy (y_ (B_ e) (I.ok.cab x c hfn hc)))).trans (I.base.keep b o e n hb hx)
   · obtain ⟨sl,e1⟩:=I.base.slot b o e n hb hx;exact ⟨sl,(hs.2 b (Fy (y_ (B_ e) (I.ok.cab x c hfn hc)))).trans e1⟩
   · obtain ⟨o',e1⟩:=I.base.there b o e hx;exact ⟨o',(hs.2 b (Fy (y_ (B_ e) (I.ok.cab x c hfn hc)))).trans e1⟩
   · by_cases hj:j=i
     · subst hj;rw [hi] at e1; cases e1;rw [E7 hiσ] at e2;cases e2;exact ⟨u,r,.inr ⟨.inl hk,c,hc,hc'⟩⟩
     · rw [EU (HC hj)] at e2;obtain ⟨u',r',q⟩:=hl j y v' e1 e2 e3;refine ⟨u',r',?_⟩;rcases q with q | ⟨k,c',e,z'⟩
       · exact .inl q
       · refine .inr ⟨k,c',e,z'.sameBut hs ?_⟩;rintro rfl;exact hj (iQ hN e1 (I.ok.inj _ _ _ e hc ▸ hi))
   · by_cases hcc:c'=c
     · subst hcc; exact ⟨_,hc'⟩
     · obtain ⟨w2,z2⟩:=I.cell y c' e;exact ⟨w2,z2.sameBut hs hcc⟩
   · obtain ⟨e,n,ne,nf,d⟩:=I.pin p hp;refine ⟨(hs.2 p.1 ?_).trans e,n,ne,nf,d⟩;intro q;rw [q,hoc] at e;have q':oc=p.2:=Fj e;exact d w' (by rw [← q']; exact hocd)
theorem gE {M:K4} {A:EQ} {E:d_→e_→Prop} {i:Nat} {x:Str} {v:V} {u:d_} {Q:Unit→e_→Prop} (I:Inv X f' σ H s) (hN:X.N.Nodup) (hi:X.N[i]?=some x) (hx:Loc X.env.scope x) (r:RelV v u)
 (h:∀ s',Inv X f' (σ.set i (some v)) H s'→Q () s') (hf:X.fn x=b_∨X.env.scope.names.lookup x=some .local:=by first | exact .inl rfl | exact .inr rfl | assumption):C_ M A (storeName X.env x u) Q E s :=
 nJ I hN hi hx r (fun s' I' _=>h s' I') hf
theorem Inv.call' {s':e_} {ch:List k_} (I:Inv X f' σ H s) (ho:s'.os=s.os) (u:Un (frs X.stack) ch H H' s.heap s'.heap) (hok:HOk X.prog X.w H' s'.heap) (hg:IT s'.gens)
 (hch:∀ b∈ch,(b∈X.ex∨X.s₀.heap.objs.size≤b)∧b≠X.env.locals∧(∀ x c,X.env.cells.lookup x=some c→c≠b)∧∀ p∈X.pn ++ f',p.1≠b):Inv X f' σ H' s':=by
 obtain ⟨h',g',d',t',o'⟩:=s';have e:o'=s.os:=ho;subst e;exact I.call (g':=g') (t':=t') (d':=d') u hok hg hch
end
abbrev XK:=d_→Option k_→Hp→Prop
abbrev St:=List (Option V)
abbrev VK:=V→Hp→Prop
abbrev TE:=St→Hp→VK→Prop
abbrev TT:=St→Hp→(Bool→Hp→Prop)→Prop
abbrev TA:=St→Hp→(List V→Hp→Prop)→Prop
structure qS where
 nx:St→Hp→Prop
 rt:VK
 bk:St→Hp→Prop:=fun _ _=>False
 ct:St→Hp→Prop:=fun _ _=>False
abbrev TS:=qS→St→Hp→Prop
def EP (X:Cx) (f':List (k_×Obj)) (σ:St) (Q:VK) (u:d_) (s':e_):Prop:=∃ v H',Inv X f' σ H' s'∧RelV v u∧Q v H'
def TP (X:Cx) (f':List (k_×Obj)) (σ:St) (Q:Bool→Hp→Prop) (b:Bool) (s':e_):Prop:=∃ H',Inv X f' σ H' s'∧Q b H'
def AP (X:Cx) (f':List (k_×Obj)) (σ:St) (Q:List V→Hp→Prop) (us:List d_) (s':e_):Prop:=∃ vs H',Inv X f' σ H' s'∧Vals vs us∧Q vs H'
def SP (X:Cx) (f':List (k_×Obj)) (D:qS) (f:Flow) (s':e_):Prop :=
 match f with
 | .next=>∃ σ' H',Inv X f' σ' H' s'∧D.nx σ' H'
 | .brk=>∃ σ' H',Inv X f' σ' H' s'∧D.bk σ' H'
 | .cont=>∃ σ' H',Inv X f' σ' H' s'∧D.ct σ' H'
 | .ret u=>∃ v σ' H',Inv X f' σ' H' s'∧RelV v u∧D.rt v H'
def PE (X:Cx) (e:D_) (t:TE):Prop :=
 ∀ (f':List (k_×Obj)) (s:e_) (σ:St) (H:Hp) (Q:VK),Inv X f' σ H s→t σ H Q→C_ (A_ X.prog X.w) X.A (eval e X.env) (EP X f' σ Q) X.xe s
def PT (X:Cx) (e:D_) (t:TT):Prop :=
 ∀ (f':List (k_×Obj)) (s:e_) (σ:St) (H:Hp) (Q:Bool→Hp→Prop),Inv X f' σ H s→t σ H Q→C_ (A_ X.prog X.w) X.A (isTrue e X.env (eval e X.env)) (TP X f' σ Q) X.xe s
def PW (X:Cx) (e:D_) (t:TT):Prop :=
 ∀ (whole:Sem d_) (f':List (k_×Obj)) (s:e_) (σ:St) (H:Hp) (Q:Bool→Hp→Prop),Inv X f' σ H s→t σ H Q→C_ (A_ X.prog X.w) X.A (isTrue e X.env whole) (TP X f' σ Q) X.xe s
theorem PW.pt {X:Cx} {e:D_} {t:TT} (h:PW X e t):PT X e t:=h _
def PA (X:Cx) (es:List D_) (t:TA):Prop :=
 ∀ (pos:Pos) (f':List (k_×Obj)) (s:e_) (σ:St) (H:Hp) (Q:List V→Hp→Prop),Inv X f' σ H s→t σ H Q→C_ (A_ X.prog X.w) X.A (spliced (FV pos (j_ es X.env))) (AP X f' σ Q) X.xe s
def PS (X:Cx) (st:F_) (t:TS):Prop :=
 ∀ (f':List (k_×Obj)) (s:e_) (σ:St) (H:Hp) (D:qS),Inv X f' σ H s→t D σ H→C_ (A_ X.prog X.w) X.A (exec st X.env) (SP X f' D) X.xe s
def PSs (X:Cx) (st:List F_) (t:TS):Prop :=
 ∀ (f':List (k_×Obj)) (s:e_) (σ:St) (H:Hp) (D:qS),Inv X f' σ H s→t D σ H→C_ (A_ X.prog X.w) X.A (execs st X.env) (SP X f' D) X.xe s
theorem thn {α:Type} {t:Sem α} {Q Q':α→e_→Prop} {M:K4} {A:EQ} {E:d_→e_→Prop} {s:e_} (h:C_ M A t Q E s) (hQ:∀ a s,Q a s→Q' a s):C_ M A t Q' E s:=FR h hQ fun _ _ x=>x
section
variable {X:Cx}
def xg (i:Nat):TE:=fun σ H Q=>∃ v,σ[i]?=some (some v)∧Q v H
def tC (v:V):TE:=fun _ H Q=>Q v H
theorem nK {i:Nat} {x:Str} {pos:Pos} (hN:X.N[i]?=some x) (hv:Vis X.env.scope x) (hd:(x == ("__debug__":Str))=c_:=by decide) (hcd:(x == ("__classdict__":Str))=c_:=by decide):PE X (.Name x pos) (xg i):=by
 intro f' s σ H Q I h;obtain ⟨v,e,h⟩:=h;obtain ⟨m,hn,hl⟩:=I.loc;obtain ⟨u,r,l⟩:=hl i x v hN e hv;have fin:EP X f' σ Q u s:=⟨v,H,I,r,h⟩;rcases l with ⟨hk,hm⟩ | ⟨hk,c,hc,hcell⟩
 · exact wpAny_Name (wpAny_loadName_local I.ok.kind hk hn hm fin) hd
 · rcases hk with hk | hk
   · exact wpAny_Name (wpAny_loadName_cell I.ok.kind hk hc hcell fin) hd
   · exact wpAny_Name (wpAny_loadName_free I.ok.kind hk hc hcell fin hcd) hd
theorem xz {i j pos}:PE X (.Constant (.int i) j pos) (tC (.int i)):=fun _ _ _ H _ I h=>wpAny_Constant_int ⟨.int i,H,I.tok _,⟨_,rfl⟩,h⟩
theorem Bx {b j pos}:PE X (.Constant (.bool b) j pos) (tC (.bl b)):=fun _ _ _ H _ I h=>Constant_bool ⟨.bl b,H,I,rfl,h⟩
theorem xA {j pos}:PE X (.Constant .none j pos) (tC .non):=fun _ _ _ H _ I h=>Constant_none ⟨.non,H,I,rfl,h⟩
theorem xB {x j pos}:PE X (.Constant (.str x) j pos) (tC (.str x)):=fun _ _ _ H _ I h=>Calls.Constant_str ⟨.str x,H,I.tok _,⟨_,rfl⟩,h⟩
def Gl (X:Cx) (x:Str):Prop:=X.env.kindOf x=some .globalImplicit
theorem iR {E:d_→e_→Prop} {f':List (k_×Obj)} {s:e_} {σ:St} {H:Hp} {x:Str} {u:d_} {pos:Pos} {Q:d_→e_→Prop} (I:Inv X f' σ H s) (hg:Gl X x) (hm:X.mg x=some u) (h:Q u s)
 (hd:(x == ("__debug__":Str))=c_:=by decide):C_ (A_ X.prog X.w) X.A (eval (.Name x pos) X.env) Q E s :=
 Jg I.ok.kind hg (Calls.loadGlobal_global (by rw [I.ok.glob]; exact I.mod.glob.keeps I.bk) hm h) hd
theorem gO {E:d_→e_→Prop} {f':List (k_×Obj)} {s:e_} {σ:St} {H:Hp} {x:Str} {u:d_} {pos:Pos} {Q:d_→e_→Prop} (I:Inv X f' σ H s) (hg:Gl X x) (hm:X.mg x=none) (hv:F9 x=some u) (h:Q u s)
 (hn:x≠"__name__":=by decide) (hd:(x == ("__debug__":Str))=c_:=by decide):C_ (A_ X.prog X.w) X.A (eval (.Name x pos) X.env) Q E s:=by
 obtain ⟨mb,h1,h2⟩:=I.mod.blt;exact Jg I.ok.kind hg (Calls.loadGlobal_builtin (by rw [I.ok.glob]; exact I.mod.glob.keeps I.bk) hm (by rw [I.ok.blt]; exact h1.keeps I.bk) ((h2 x hn).trans hv) h) hd
theorem kA {x:Str} {v:V} {u:d_} {pos:Pos} (hg:Gl X x) (hm:X.mg x=some u) (r:RelV v u) (hd:(x == ("__debug__":Str))=c_:=by decide):PE X (.Name x pos) (tC v) :=
 fun _ _ _ H _ I h=>iR I hg hm ⟨v,H,I,r,h⟩ hd
theorem nM {x:Str} {v:V} {u:d_} {pos:Pos} (hg:Gl X x) (hm:X.mg x=none) (hv:F9 x=some u) (r:RelV v u) (hn:x≠"__name__":=by decide) (hd:(x == ("__debug__":Str))=c_:=by decide):PE X (.Name x pos) (tC v) :=
 fun _ _ _ H _ I h=>gO I hg hm hv ⟨v,H,I,r,h⟩ hn hd
variable {a b:D_} {ta tb:TE} {pos:Pos}
def tB (t:TE):TT:=fun σ H Q=>t σ H fun x H1=>∃ c,x=.bl c∧Q c H1
theorem xD {e:D_} {t:TE} (h:PE X e t) (he:∀ whole,isTrue e X.env whole=(do let v ← whole; standAt e.pos; Iw [v] (truthy v)):=by intro _; rfl):PT X e (tB t):=by
 intro f' s σ H Q I hw;refine isTrue_plain (thn (h f' s σ H _ I hw) fun v s1 ⟨x,H1,I1,r1,q1⟩=>?_) (he _);obtain ⟨d,rfl,q⟩:=q1;cases r1;exact GO ⟨H1,I1,q⟩
variable {tA tB':TT} {rest:List D_}
def D7 (t u:TT):TT:=fun σ H Q=>t σ H fun c H1=>if c=b_ then u σ H1 Q else Q c_ H1
def tOr (t u:TT):TT:=fun σ H Q=>t σ H fun c H1=>if c=b_ then Q b_ H1 else u σ H1 Q
def D8 (t:TT):TT:=fun σ H Q=>t σ H fun c H1=>Q (!c) H1
theorem uA (ha:PT X a tA):PW X (.BoolOp .And [a] pos) tA:=by
 intro wh f' s σ H Q I h;refine isTrue_and (thn (ha f' s σ H Q I h) fun c s1 e=>?_);cases c with
 | true=>exact isTrue_and_nil e
 | false=>exact e
theorem xE (ha:PT X a tA):PW X (.BoolOp .Or [a] pos) tA:=by
 intro wh f' s σ H Q I h;refine isTrue_or (thn (ha f' s σ H Q I h) fun c s1 e=>?_);cases c with
 | false=>exact isTrue_or_nil e
 | true=>exact e
theorem xF (ha:PT X a tA) (hb:PW X (.BoolOp .And (b :: rest) pos) tB'):PW X (.BoolOp .And (a :: b :: rest) pos) (D7 tA tB'):=by
 intro wh f' s σ H Q I h;refine isTrue_and (thn (ha f' s σ H _ I h) fun c s1 ⟨H1,I1,q1⟩=>?_);cases c with
 | true=>exact hb wh f' s1 σ H1 Q I1 q1
 | false=>exact ⟨H1,I1,q1⟩
theorem By (ha:PT X a tA) (hb:PW X (.BoolOp .Or (b :: rest) pos) tB'):PW X (.BoolOp .Or (a :: b :: rest) pos) (tOr tA tB'):=by
 intro wh f' s σ H Q I h;refine isTrue_or (thn (ha f' s σ H _ I h) fun c s1 ⟨H1,I1,q1⟩=>?_);cases c with
 | true=>exact ⟨H1,I1,q1⟩
 | false=>exact hb wh f' s1 σ H1 Q I1 q1
theorem xG (ha:PT X a tA):PT X (.UnaryOp .Not a pos) (D8 tA):=by
 intro f' s σ H Q I h;exact isTrue_not (ha f' s σ H (fun c H1=>Q (!c) H1) I h)
def Bz (ta tb:TE):TE:=fun σ H Q=>ta σ H fun x H1=>∃ c,x=.bl c∧if c=b_ then tb σ H1 Q else Q (.bl c_) H1
def Ea (ta tb:TE):TE:=fun σ H Q=>ta σ H fun x H1=>∃ c,x=.bl c∧if c=b_ then Q (.bl b_) H1 else tb σ H1 Q
def BA (ta:TE):TE:=fun σ H Q=>ta σ H fun x H1=>∃ c,x=.bl c∧Q (.bl (!c)) H1
theorem xH {op} {t:TE} (h:PE X a t):PE X (.BoolOp op [a] pos) t:=fun f' s σ H Q I hw=>BoolOp_one (h f' s σ H Q I hw)
theorem xI (ha:PE X a ta) (hb:PE X (.BoolOp .And (b :: rest) pos) tb):PE X (.BoolOp .And (a :: b :: rest) pos) (Bz ta tb):=by
 intro f' s σ H Q I h;refine BoolOp_and (thn (ha f' s σ H _ I h) fun v s1 ⟨x,H1,I1,r1,q1⟩=>?_);obtain ⟨c,rfl,q1⟩:=q1;cases r1;refine GO ?_;cases c with
 | true=>exact hb f' s1 σ H1 Q I1 q1
 | false=>exact ⟨.bl c_,H1,I1,rfl,q1⟩
theorem BB (ha:PE X a ta) (hb:PE X (.BoolOp .Or (b :: rest) pos) tb):PE X (.BoolOp .Or (a :: b :: rest) pos) (Ea ta tb):=by
 intro f' s σ H Q I h;refine BoolOp_or (thn (ha f' s σ H _ I h) fun v s1 ⟨x,H1,I1,r1,q1⟩=>?_);obtain ⟨c,rfl,q1⟩:=q1;cases r1;refine GO ?_;cases c with
 | false=>exact hb f' s1 σ H1 Q I1 q1
 | true=>exact ⟨.bl b_,H1,I1,rfl,q1⟩
theorem xJ (ha:PE X a ta):PE X (.UnaryOp .Not a pos) (BA ta):=by
 intro f' s σ H Q I h;refine UnaryOp_ (thn (ha f' s σ H _ I h) fun v s1 ⟨x,H1,I1,r1,q1⟩=>?_);obtain ⟨c,rfl,q1⟩:=q1;cases r1;exact not_of (GO ⟨.bl (!c),H1,I1,rfl,q1⟩)
def tIf (t:TT) (ta tb:TE):TE:=fun σ H Q=>t σ H fun c H1=>if c=b_ then ta σ H1 Q else tb σ H1 Q
theorem qT {c:D_} (hc:PT X c tA) (ha:PE X a ta) (hb:PE X b tb):PE X (.IfExp c a b pos) (tIf tA ta tb):=by
 intro f' s σ H Q I h;refine wpAny_IfExp (thn (hc f' s σ H _ I h) fun d s1 ⟨H1,I1,q1⟩=>?_);cases d with
 | true=>exact ha f' s1 σ H1 Q I1 q1
 | false=>exact hb f' s1 σ H1 Q I1 q1
end
def SqL (K:ck) (H:Hp) (a:k_) (xs:List V):Prop :=
 Rd H a (.lst xs) ∨
  ∃ (o:Obj) (its:Array d_) (n:Nat),K.lookup a=some o∧o.cls=.type "list"∧o.dict=none∧o.data=.seq its n∧its.size≤sizeLine∧Vals xs its.toList
def SqT (K:ck) (H:Hp) (a:k_) (xs:List V):Prop :=
 Rd H a (.tup xs) ∨
  ∃ (o:Obj) (its:Array d_) (n:Nat),K.lookup a=some o∧o.cls=.type "tuple"∧o.data=.seq its n∧its.size≤sizeLine∧Vals xs its.toList
def Eb:d_→Option V
 | .none=>some .non
 | .bool b=>some (.bl b)
 | .int i _=>some (.int i)
 | .str x _=>some (.str x)
 | .bytes b _=>some (.byt b)
 | .float b _=>some (.flt b)
 | .ref a=>some (.ref a)
 | .type n=>some (.ty n)
 | _=>none
theorem RelV.abs {x:V} {u:d_} (r:RelV x u):Eb u=some x:=by
 cases x with
 | non=>cases r; rfl
 | bl _=>cases r; rfl
 | int _=>obtain ⟨t,rfl⟩:=r; rfl
 | str _=>obtain ⟨t,rfl⟩:=r; rfl
 | byt _=>obtain ⟨t,rfl⟩:=r; rfl
 | flt _=>obtain ⟨t,rfl⟩:=r; rfl
 | ref _=>cases r; rfl
 | ty _=>cases r; rfl
theorem RelV.inj {x y:V} {u:d_} (r:RelV x u) (q:RelV y u):x=y:=Fj (r.abs.symm.trans q.abs)
theorem Vals.inj:∀ {xs ys:List V} {us:List d_},Vals xs us→Vals ys us→xs=ys
 | _,_,_,.nil,.nil=>rfl
 | _,_,_,.cons r t,.cons r' t'=>by rw [r.inj r',Vals.inj t t']
section
variable {X:Cx} {f':List (k_×Obj)} {σ:St} {H:Hp} {s:e_} {a:k_} {xs ys:List V}
theorem SqL.of {K:ck} (h:H a=some (.lst xs)):SqL K H a xs:=.inl (.inl h)
theorem SqT.of {K:ck} (h:H a=some (.tup xs)):SqT K H a xs:=.inl (.inl h)
theorem Inv.list (I:Inv X f' σ H s) (h:SqL X.K H a xs):∃ its:List d_,Vals xs its∧PlainL s.heap a its.toArray∧xs.length≤sizeLine:=by
 rcases h with h | ⟨o,its,n,hk,hc,hd,hs,hz,r⟩
 · obtain ⟨z,its,n,r,e⟩:=h.ok I.hok;exact ⟨its,r,⟨_,n,e,rfl,rfl,rfl⟩,z⟩
 · refine ⟨its.toList,r,⟨o,n,I.kIn a o hk,hc,hd,by simpa using hs⟩,?_⟩;have e:=r.length;simp only [ES] at e;omega
theorem Inv.tuple (I:Inv X f' σ H s) (h:SqT X.K H a xs):∃ its:List d_,Vals xs its∧MF s.heap a its.toArray∧xs.length≤sizeLine:=by
 rcases h with h | ⟨o,its,n,hk,hc,hs,hz,r⟩
 · obtain ⟨z,its,r,p⟩:=h.ok I.hok;exact ⟨its,r,p,z⟩
 · refine ⟨its.toList,r,⟨o,I.kIn a o hk,hc,n,by simpa using hs⟩,?_⟩;have e:=r.length;simp only [ES] at e;omega
theorem Inv.list_inj (I:Inv X f' σ H s) (h:SqL X.K H a xs) (h':SqL X.K H a ys):xs=ys:=by
 obtain ⟨its,r,⟨o,n,e,_,_,d⟩,_⟩:=I.list h;obtain ⟨its',r',⟨o',n',e',_,_,d'⟩,_⟩:=I.list h';rw [e] at e'; cases e';rw [d] at d';injection d' with d1 _;have:its=its':=by simpa using congrArg Array.toList d1
 subst this;exact r.inj r'
theorem Inv.tuple_inj (I:Inv X f' σ H s) (h:SqT X.K H a xs) (h':SqT X.K H a ys):xs=ys:=by
 obtain ⟨its,r,⟨o,e,_,n,d⟩,_⟩:=I.tuple h;obtain ⟨its',r',⟨o',e',_,n',d'⟩,_⟩:=I.tuple h';rw [e] at e'; cases e';rw [d] at d';injection d' with d1 _;have:its=its':=by simpa using congrArg Array.toList d1
 subst this;exact r.inj r'
end
abbrev Cx.wish (X:Cx) (E:d_→e_→Prop):Cx:={ X with xe:=E }
abbrev Cx.nox (X:Cx):Cx:=X.wish fun _ _=>False
theorem Cx.Ok.wish {X:Cx} (ok:X.Ok) (E:d_→e_→Prop):(X.wish E).Ok :=
 ⟨ok.mod,ok.kind,ok.glob,ok.blt,ok.above,ok.inj,ok.has,ok.cab,ok.hd,ok.frames,ok.stk,ok.exf,ok.bs,ok.bsz,ok.noex,ok.exfs,ok.funs,ok.frf⟩
theorem Cx.Ok.unwish {X:Cx} {E:d_→e_→Prop} (ok:(X.wish E).Ok):X.Ok :=
 ⟨ok.mod,ok.kind,ok.glob,ok.blt,ok.above,ok.inj,ok.has,ok.cab,ok.hd,ok.frames,ok.stk,ok.exf,ok.bs,ok.bsz,ok.noex,ok.exfs,ok.funs,ok.frf⟩
section
variable {X:Cx} {f':List (k_×Obj)} {σ:St} {H:Hp} {s:e_} {E:d_→e_→Prop}
theorem Inv.wish (I:Inv X f' σ H s) (E:d_→e_→Prop):Inv (X.wish E) f' σ H s:=⟨I.ok.wish E,I.os,I.bare,I.base,I.loc,I.cell,I.free,I.freeC,I.pin,I.hok,I.len⟩
theorem Inv.unwish (I:Inv (X.wish E) f' σ H s):Inv X f' σ H s:=⟨I.ok.unwish,I.os,I.bare,I.base,I.loc,I.cell,I.free,I.freeC,I.pin,I.hok,I.len⟩
theorem SP.unwish {D:qS} {f:Flow} {s':e_} (h:SP (X.wish E) f' D f s'):SP X f' D f s':=by
 cases f with
 | next=>obtain ⟨σ',H',I,q⟩:=h; exact ⟨σ',H',I.unwish,q⟩
 | brk=>obtain ⟨σ',H',I,q⟩:=h; exact ⟨σ',H',I.unwish,q⟩
 | cont=>obtain ⟨σ',H',I,q⟩:=h; exact ⟨σ',H',I.unwish,q⟩
 | ret u=>obtain ⟨v,σ',H',I,r,q⟩:=h; exact ⟨v,σ',H',I.unwish,r,q⟩
theorem PE.nox {e:D_} {t:TE} (h:PE X.nox e t):PE X e t:=fun f' s σ H Q I hw =>
 FR (h f' s σ H Q (I.wish _) hw) (fun _ _ ⟨v,H',I',r,q⟩=>⟨v,H',I'.unwish,r,q⟩) fun _ _ z=>FJ z
theorem PT.nox {e:D_} {t:TT} (h:PT X.nox e t):PT X e t:=fun f' s σ H Q I hw =>
 FR (h f' s σ H Q (I.wish _) hw) (fun _ _ ⟨H',I',q⟩=>⟨H',I'.unwish,q⟩) fun _ _ z=>FJ z
theorem PSs.nox {st:List F_} {t:TS} (h:PSs X.nox st t):PSs X st t:=fun f' s σ H D I hw =>
 FR (h f' s σ H D (I.wish _) hw) (fun _ _ q=>q.unwish) fun _ _ z=>FJ z
end
section
variable {X:Cx} {st:F_} {rest:List F_} {t u:TS} {e:D_} {te:TE} {pos:Pos}
def BC:TS:=fun D σ H=>D.nx σ H
def Ec (t u:TS):TS:=fun D σ H=>t { D with nx:=u D } σ H
theorem nN:PSs X [] BC:=fun _ _ σ H _ I h=>Kc ⟨σ,H,I,h⟩
theorem gF (h1:PS X st t) (h2:PSs X rest u):PSs X (st :: rest) (Ec t u):=by
 intro f' s σ H D I h;refine wpAny_execs_cons (thn (h1 f' s σ H { D with nx:=u D } I h) fun f s1 q=>?_);cases f with
 | next =>
  obtain ⟨σ',H',I',q⟩:=q;exact h2 f' s1 σ' H' D I' q
 | ret v=>exact q
 | brk=>exact q
 | cont=>exact q
theorem nO (h1:PS X st t):PSs X [st] t:=by
 intro f' s σ H D I h;refine wpAny_execs_cons (thn (h1 f' s σ H D I h) fun f s1 q=>?_);cases f with
 | next=>exact Kc q
 | ret v=>exact q
 | brk=>exact q
 | cont=>exact q
theorem Inv.quiet {f':List (k_×Obj)} {σ:St} {H:Hp} {s:e_} (I:Inv X f' σ H s):interactive X.env=c_:=by simp [interactive,I.ok.kind]
def BD (te:TE):TS:=fun D σ H=>te σ H fun _ H1=>D.nx σ H1
theorem nP (he:PE X e te) (hs:Gr e none pos.line X.env=pure c_:=by rfl):PS X (.Expr e pos) (BD te):=by
 intro f' s σ H D I h;exact wpAny_Expr_any (thn (he f' s σ H _ I h) fun v s1 ⟨x,H1,I1,r1,q1⟩=>⟨σ,H1,I1,q1⟩) I.quiet hs
def Ed (te:TE):TS:=fun D σ H=>te σ H D.rt
theorem tf (he:PE X e te):PS X (.Return (some e) pos) (Ed te):=by
 intro f' s σ H D I h;exact wpAny_Return_some (thn (he f' s σ H _ I h) fun v s1 ⟨x,H1,I1,r1,q1⟩=>⟨x,σ,H1,I1,r1,q1⟩)
def Ee (c:TT) (t u:TS):TS:=fun D σ H=>c σ H fun b H1=>if b=b_ then t D σ H1 else u D σ H1
theorem uB {c:D_} {a b:List F_} {tc:TT} (hc:PT X c tc) (ha:PSs X a t) (hb:PSs X b u):PS X (.If c a b pos) (Ee tc t u):=by
 intro f' s σ H D I h;refine wpAny_If (thn (hc f' s σ H _ I h) fun d s1 ⟨H1,I1,q1⟩=>?_);cases d with
 | true=>exact ha f' s1 σ H1 D I1 q1
 | false=>exact hb f' s1 σ H1 D I1 q1
end
abbrev TG:=V→St→Hp→(St→Hp→Prop)→Prop
def PG (X:Cx) (target:D_) (t:TG):Prop :=
 ∀ (f':List (k_×Obj)) (s:e_) (σ:St) (H:Hp) (v:V) (u:d_) (Q:St→Hp→Prop),Inv X f' σ H s→RelV v u→t v σ H Q →
  C_ (A_ X.prog X.w) X.A (JV target X.env u) (fun _ s'=>∃ σ' H',Inv X f' σ' H' s'∧Q σ' H') X.xe s
abbrev BE:=V→V→V→Hp→(Hp→Prop)→Prop
def Dy (X:Cx) (t:BE):Prop :=
 ∀ (f':List (k_×Obj)) (s:e_) (σ:St) (H:Hp) (o i v:V) (ov iv u:d_) (Q:Hp→Prop),Inv X f' σ H s→RelV o ov→RelV i iv→RelV v u→t o i v H Q →
  C_ (A_ X.prog X.w) X.A (setItem ov iv u) (fun _ s'=>∃ H',Inv X f' σ H' s'∧Q H') X.xe s
section
variable {X:Cx} {pos:Pos}
def nQ (i:Nat):TG:=fun v σ H Q=>Q (σ.set i (some v)) H
theorem gP {i:Nat} {x:Str} (hN:X.N.Nodup) (hi:X.N[i]?=some x) (hx:Loc X.env.scope x) (hf:X.fn x=b_∨X.env.scope.names.lookup x=some .local:=by first | exact .inl rfl | exact .inr rfl | assumption):PG X (.Name x pos) (nQ i):=by
 intro f' s σ H v u Q I r h;exact wpAny_assign_Name (gE I hN hi hx r (fun s' I'=>⟨_,H,I',h⟩) hf)
def Ef (to ti:TE) (t:BE):TG:=fun v σ H Q=>to σ H fun o H1=>ti σ H1 fun i H2=>t o i v H2 fun H3=>Q σ H3
theorem xK {o i:D_} {to ti:TE} {t:BE} (ho:PE X o to) (hi:PE X i ti) (hs:Dy X t)
 (ha:∀ v,JV (.Subscript o i pos) X.env v=(do
   let ov ← Iw [v] (eval o X.env)
   let iv ← Iw [v,ov] (eval i X.env)
   standAt pos
   Iw [v,ov,iv] (setItem ov iv v)
   release [v,ov,iv] []):=by intro _; rfl):PG X (.Subscript o i pos) (Ef to ti t):=by
 intro f' s σ H v u Q I r h;rw [ha];refine ge (FX (thn (ho f' s σ H _ I h) fun ov s1 ⟨x,H1,I1,r1,q1⟩=>?_));refine ge (FX (thn (hi f' s1 σ H1 _ I1 q1) fun iv s2 ⟨y,H2,I2,r2,q2⟩=>?_));refine ge (KZ (ge (FX (thn (hs f' s2 σ H2 x y v ov iv u _ I2 r1 r2 r q2) fun _ s3 ⟨H3,I3,q3⟩=>?_))));exact wpAny_release ⟨σ,H3,I3,q3⟩
def Dz (te:TE) (g:TG):TS:=fun D σ H=>te σ H fun x H1=>g x σ H1 D.nx
theorem xL {tg e:D_} {te:TE} {g:TG} (he:PE X e te) (hg:PG X tg g) (hs:swapsWithSole [tg] e pos.line X.env=pure c_:=by rfl) (hw:swappedStores [tg] e X.env=pure none:=by rfl)
 (h1:(assignEach [tg] X.env).map (·.2)=[JV tg X.env]:=by rfl):PS X (.Assign [tg] e pos) (Dz te g):=by
 intro f' s σ H D I h;refine wpAny_Assign_stores (thn (he f' s σ H _ I h) fun v s1 ⟨x,H1,I1,r1,q1⟩=>?_) hs hw;rw [h1];exact thn (hg f' s1 σ H1 x v _ I1 r1 q1) fun _ s2 q=>q
theorem lC {i:Nat} {x:Str} {e:D_} {te:TE} {pos':Pos} (hN:X.N.Nodup) (hi:X.N[i]?=some x) (hx:Loc X.env.scope x) (he:PE X e te) (hs:Gr e (some (.Name x pos')) pos.line X.env=pure c_:=by rfl) (hf:X.fn x=b_∨X.env.scope.names.lookup x=some .local:=by first | exact .inl rfl | exact .inr rfl | assumption) :
 PS X (.Assign [.Name x pos'] e pos) (Dz te (nQ i)):=by
 intro f' s σ H D I h;refine wpAny_Assign_Name (thn (he f' s σ H _ I h) fun v s1 ⟨y,H1,I1,r1,q1⟩=>?_) hs;exact gE I1 hN hi hx r1 (fun s2 I2=>⟨_,H1,I2,q1⟩) hf
end
section
variable {X:Cx} {pos:Pos}
end
structure It where
 go:Nat→Hp→Prop
 yld:Nat→Hp→V→Hp→Prop
 stop:Nat→Hp→Prop
def qJ (X:Cx) (f':List (k_×Obj)) (H:Hp) (b:k_):Prop :=
 H b=none∧b≠X.env.locals∧b ∉ X.fs∧(b∈X.ex∨X.s₀.heap.objs.size≤b)∧(∀ x c,X.env.cells.lookup x=some c→c≠b)∧∀ p∈X.pn ++ f',p.1≠b
theorem Inv.fpOk {X:Cx} {f':List (k_×Obj)} {σ:St} {H H':Hp} {s:e_} {b:k_} (I:Inv X f' σ H s) (hb:s.heap.objs.size≤b) (hn:H' b=none):qJ X f' H' b:=by
 refine ⟨hn,Nat.ne_of_gt (y_ I.lt hb),I.nofs hb,.inr (EW I.sz hb),fun x c e z=>?_,fun p hp z=>?_⟩
 · obtain ⟨v,q⟩:=I.cell x c e;exact absurd (y_ q.lt (by rw [z]; exact hb)) (Gj _)
 · exact absurd (y_ (B_ (I.pin p hp).1) (by rw [z]; exact hb)) (Gj _)
structure uC (P:pi) (w:EO) (K:ck) (tg:D_) (J:It) (fp:List k_) (it:k_) (tn:Nat→Fg→Prop):Prop where
 mem:it∈fp
 obj:∀ i h,tn i h→∀ b∈fp,∃ o,h.get? b=some o∧∀ v,o.data≠.cell v
 keep:∀ i h h',tn i h→(∀ b∈fp,∀ o,h.get? b=some o→h'.get? b=some o)→tn i h'
 item:∀ (X:Cx),X.prog=P→X.w=w→X.K=K→X.calm=b_→∀ (i:Nat) (f':List (k_×Obj)) (s:e_) (σ:St) (H:Hp) (E:d_→e_→Prop),Inv X f' σ H s→(∀ b∈fp,qJ X f' H b)→tn i s.heap→J.go i H →
  C_ (A_ P w) X.A (pyNext (.ref it)) (fun r s1=>∃ u,r=some u ∧
   C_ (A_ P w) X.A (IE tg (.ref it) u) (fun _ s2=>∃ x H',Inv X f' σ H' s2∧RelV x u∧J.yld i H x H'∧tn (i + 1) s2.heap∧∀ b∈fp,H' b=none) E s1) E s
 done:∀ (X:Cx),X.prog=P→X.w=w→X.K=K→X.calm=b_→∀ (i:Nat) (f':List (k_×Obj)) (s:e_) (σ:St) (H:Hp) (E:d_→e_→Prop),Inv X f' σ H s→(∀ b∈fp,qJ X f' H b)→tn i s.heap→J.stop i H →
  C_ (A_ P w) X.A (pyNext (.ref it)) (fun r s1=>r=none∧Inv X f' σ H s1) E s
 self:∀ (A:EQ) (i:Nat) (s:e_) (Q:d_→e_→Prop) (E:d_→e_→Prop),tn i s.heap→Q (.ref it) s→C_ (A_ P w) A (pyIter (.ref it)) Q E s
abbrev TI:=St→Hp→(It→Hp→Prop)→Prop
def PIE (X:Cx) (f':List (k_×Obj)) (σ:St) (tg:D_) (R:It→Hp→Prop) (itv:d_) (s2:e_):Prop :=
 ∃ (it:k_) (fp:List k_) (tn:Nat→Fg→Prop) (J:It) (H':Hp),itv=.ref it∧Inv X f' σ H' s2∧uC X.prog X.w X.K tg J fp it tn∧tn 0 s2.heap∧(∀ b∈fp,qJ X f' H' b)∧R J H'
def PI (X:Cx) (tg iter:D_) (wi:TI):Prop :=
 ∀ (f':List (k_×Obj)) (s:e_) (σ:St) (H:Hp) (R:It→Hp→Prop),Inv X f' σ H s→wi σ H R →
  C_ (A_ X.prog X.w) X.A (eval iter X.env) (fun v s1=>C_ (A_ X.prog X.w) X.A (pyIter v) (PIE X f' σ tg R) X.xe s1) X.xe s
theorem qU {M:K4} {A:EQ} {E:d_→e_→Prop} {s:e_} {tg:D_} {it:k_} {u:d_} {o:Obj} {n:String} {vs:Array d_} {Q:Unit→e_→Prop} (ho:s.heap.get? it=some o) (hc:o.cls=.type n) (hd:o.data=.fields vs)
 (hn:["enumerate","zip","dict_itemiterator","dict_reverseitemiterator","odict_iterator","itertools.zip_longest","itertools.pairwise"].contains n=c_) (hQ:Q () s):C_ M A (IE tg (.ref it) u) Q E s:=by
 unfold IE;cases tg <;> first
  | exact m_ hQ
  | (cases u <;> first
      | exact m_ hQ
      | (refine ge (wpAny_load ho ?_)
         rw [hc,hd];show C_ M A (if (["enumerate","zip","dict_itemiterator","dict_reverseitemiterator","odict_iterator","itertools.zip_longest","itertools.pairwise"].contains n && vs[0]? == some (rawInt _))=b_ then _ else _) Q E s;rw [if_neg (by intro h; rw [hn,Bool.false_and] at h; cases h)];exact m_ hQ))
def Itl (K:ck) (a:k_):It :=
 ⟨fun i H=>∃ xs x,SqL K H a xs∧xs[i]?=some x,fun i H x H'=>H'=H∧∀ xs,SqL K H a xs→xs[i]?=some x,fun i H=>∃ xs,SqL K H a xs∧xs.length≤i⟩
def Itt (K:ck) (a:k_):It :=
 ⟨fun i H=>∃ xs x,SqT K H a xs∧xs[i]?=some x,fun i H x H'=>H'=H∧∀ xs,SqT K H a xs→xs[i]?=some x,fun i H=>∃ xs,SqT K H a xs∧xs.length≤i⟩
def Itr (lo:Int) (n:Nat):It:=⟨fun i _=>i < n,fun i H x H'=>H'=H∧x=.int (lo + i),fun i _=>n≤i⟩
theorem jz {P:pi} {w:EO} {K:ck} {tg:D_} (a it:k_):uC P w K tg (Itl K a) [it] it (fun i h=>h.IsListIter it a i) where
 mem:=by simp
 obj:=fun i h st b hb=>by
  have e:b=it:=by simpa using hb
  subst e;obtain ⟨o,e,c,d⟩:=st;exact ⟨o,e,fun v z=>by rw [d] at z; cases z⟩
 keep:=fun i h h' st k=>st.at fun o e=>k it (by simp) o e
 item:=by
  intro X hP hw hK hc i f' s σ H E I hf st hg;subst hP hw hK;obtain ⟨xs,x,hq,hx⟩:=hg;obtain ⟨its,rv,p,hz⟩:=I.list hq;obtain ⟨u,hu,ru⟩:=rv.get hx;obtain ⟨f0,f1,f2,f3,f4,f5⟩:=hf it (by simp);refine wpAny_pyNext_list_item st p.isList (x:=u) (by simpa using hu) fun h' st' sb=>?_;have I1:Inv X f' σ H { s with heap:=h' }:=I.turned (t':=s.toks) (fun b o hb e=>(sb.2 b hb).trans e) f0 f1 f3 f4 f5;obtain ⟨o,e,c,d⟩:=id st';exact ⟨u,rfl,qU (s:={ s with heap:=h' }) e c d (by decide) ⟨x,H,I1,ru,⟨rfl,fun ys hy=>by rw [I.list_inj hy hq]; exact hx⟩,st',fun b hb=>(hf b hb).1⟩⟩
 done:=by
  intro X hP hw hK hc i f' s σ H E I hf st hg;subst hP hw hK;obtain ⟨xs,hq,hx⟩:=hg;obtain ⟨its,rv,p,hz⟩:=I.list hq;obtain ⟨f0,f1,f2,f3,f4,f5⟩:=hf it (by simp);have hl:=rv.length;exact wpAny_pyNext_list_end (I.ok.hd hc) st p.isList (by simp; omega) fun h' eb=>⟨rfl,I.turned (t':=s.toks) (fun b o hb e=>eb b o hb e) f0 f1 f3 f4 f5⟩
 self:=fun _ _ _ _ _ st h=>wpAny_pyIter_listiter st h
theorem mJ {P:pi} {w:EO} {K:ck} {tg:D_} (a it:k_):uC P w K tg (Itt K a) [it] it (fun i h=>h.IsTupleIter it a i) where
 mem:=by simp
 obj:=fun i h st b hb=>by
  have e:b=it:=by simpa using hb
  subst e;obtain ⟨o,e,c,d⟩:=st;exact ⟨o,e,fun v z=>by rw [d] at z; cases z⟩
 keep:=fun i h h' st k=>st.at fun o e=>k it (by simp) o e
 item:=by
  intro X hP hw hK hc i f' s σ H E I hf st hg;subst hP hw hK;obtain ⟨xs,x,hq,hx⟩:=hg;obtain ⟨its,rv,p,hz⟩:=I.tuple hq;obtain ⟨u,hu,ru⟩:=rv.get hx;obtain ⟨f0,f1,f2,f3,f4,f5⟩:=hf it (by simp);refine wpAny_pyNext_tuple_item st (show s.heap.IsTuple a its.toArray from p) (x:=u) (by simpa using hu) fun h' st' sb=>?_;have I1:Inv X f' σ H { s with heap:=h' }:=I.turned (t':=s.toks) (fun b o hb e=>(sb.2 b hb).trans e) f0 f1 f3 f4 f5;obtain ⟨o,e,c,d⟩:=id st';exact ⟨u,rfl,qU (s:={ s with heap:=h' }) e c d (by decide) ⟨x,H,I1,ru,⟨rfl,fun ys hy=>by rw [I.tuple_inj hy hq]; exact hx⟩,st',fun b hb=>(hf b hb).1⟩⟩
 done:=by
  intro X hP hw hK hc i f' s σ H E I hf st hg;subst hP hw hK;obtain ⟨xs,hq,hx⟩:=hg;obtain ⟨its,rv,p,hz⟩:=I.tuple hq;obtain ⟨f0,f1,f2,f3,f4,f5⟩:=hf it (by simp);have hl:=rv.length;exact wpAny_pyNext_tuple_end (I.ok.hd hc) st (show s.heap.IsTuple a its.toArray from p) (by simp; omega) fun h' eb=>⟨rfl,I.turned (t':=s.toks) (fun b o hb e=>eb b o hb e) f0 f1 f3 f4 f5⟩
 self:=fun _ _ _ _ _ st h=>wpAny_pyIter_tupleiter st h
theorem mK {P:pi} {w:EO} {K:ck} {tg:D_} (it:k_) (lo:Int) (n:Nat):uC P w K tg (Itr lo n) [it] it (fun i h=>IsRangeIter h it (lo + (i:Nat) * 1) ((n:Int) - (i:Nat)) 1) where
 mem:=by simp
 obj:=fun i h st b hb=>by
  have e:b=it:=by simpa using hb
  subst e;exact ⟨_,st,fun v z=>by
   have z':Mk _=Data.cell v:=z;cases z'⟩
 keep:=fun i h h' st k=>k it (by simp) _ st
 item:=by
  intro X hP hw hK hc i f' s σ H E I hf st hg;subst hP hw hK;obtain ⟨f0,f1,f2,f3,f4,f5⟩:=hf it (by simp);have W:=Walks.range (prog:=X.prog) (w:=X.w) (I.ok.hd hc) it lo 1 n;refine W.item i s _ _ hg st fun v h' tk hv st' kk=>?_;obtain ⟨t,rfl⟩:=hv;have I1:Inv X f' σ H { s with heap:=h',toks:=tk }:=I.turned (fun b o hb e=>kk b o (by simpa using hb) e) f0 f1 f3 f4 f5;refine ⟨_,rfl,qU (s:={ s with heap:=h',toks:=tk }) (n:="range_iterator") st' rfl rfl (by decide) ⟨.int (lo + i),H,I1,⟨t,?_⟩,⟨rfl,rfl⟩,st',fun b hb=>(hf b hb).1⟩⟩;rw [Int.mul_one]
 done:=by
  intro X hP hw hK hc i f' s σ H E I hf st hg;subst hP hw hK;obtain ⟨f0,f1,f2,f3,f4,f5⟩:=hf it (by simp);exact wpAny_pyNext_range_end (I.ok.hd hc) st (by have:n≤i:=hg; omega) fun h' eb=>⟨rfl,I.turned (t':=s.toks) (fun b o hb e=>eb b o hb e) f0 f1 f3 f4 f5⟩
 self:=fun _ _ _ _ _ st h=>wpAny_pyIter_rangeiter st h
section
variable {X:Cx} {tg:D_}
theorem lD {f':List (k_×Obj)} {σ:St} {H:Hp} {s:e_} {R:It→Hp→Prop} {E:d_→e_→Prop} {lo hi:Int} {t u v:Tok} {tk:Nat} (I:Inv X f' σ H s) (h1:-(2 ^ 62)≤lo) (h2:lo < 2 ^ 62) (h3:-(2 ^ 62)≤hi) (h4:hi < 2 ^ 62)
 (q:R (Itr lo (hi - lo).toNat) H):C_ (A_ X.prog X.w) X.A (pyIter (.ref s.heap.objs.size)) (PIE X f' σ tg R) E { s with heap:=s.heap.push { cls:=.type "range",data:=.fields #[.int lo t,.int hi u,.int 1 v] },toks:=tk }:=by
 refine wpAny_pyIter_range (IsRange.new ..) (small_one h1 h2 h3 h4) ?_;have I1:Inv X f' σ H { s with heap:=s.heap.push { cls:=.type "range",data:=.fields #[.int lo t,.int hi u,.int 1 v] },toks:=tk }:=I.kept fun b o e=>on _ e;refine ⟨(s.heap.push { cls:=.type "range",data:=.fields #[.int lo t,.int hi u,.int 1 v] }).objs.size,[(s.heap.push { cls:=.type "range",data:=.fields #[.int lo t,.int hi u,.int 1 v] }).objs.size],_,_,H,rfl,
  I1.kept (t':=tk) fun b o e=>on _ e,mK _ lo (hi - lo).toNat,?_,fun b hb=>?_,q⟩
 · have e1:lo + ((0:Nat):Int) * 1=lo:=by simp
   have e2:(((hi - lo).toNat:Nat):Int) - ((0:Nat):Int)=Builtin.Range.rangeSize lo hi 1:=by rw [rangeSize_one]; split <;> omega
   show IsRangeIter _ _ (lo + ((0:Nat):Int) * 1) ((((hi - lo).toNat:Nat):Int) - ((0:Nat):Int)) 1;rw [e1,e2];exact EY _ rfl
 · have e:b=(s.heap.push { cls:=.type "range",data:=.fields #[.int lo t,.int hi u,.int 1 v] }).objs.size:=by simpa using hb
   subst e;exact I1.fpOk (p_ _) (I1.hok.fresh (p_ _))
def BF (ta:TA):TI:=fun σ H R=>ta σ H fun vs H1=>∃ j:Int,vs=[.int j]∧-(2 ^ 62)≤j∧j < 2 ^ 62∧R (Itr 0 j.toNat) H1
def BG (ta:TA):TI:=fun σ H R=>ta σ H fun vs H1=>∃ i j:Int,vs=[.int i,.int j]∧(-(2 ^ 62)≤i∧i < 2 ^ 62∧-(2 ^ 62)≤j∧j < 2 ^ 62)∧R (Itr i (j - i).toNat) H1
theorem nU {a:D_} {ta:TA} {p pos:Pos} (hg:Gl X "range") (hm:X.mg "range"=none) (ha:PA X [a] ta) (hs:j_ [a] X.env=[(c_,eval a X.env)]:=by rfl):PI X tg (.Call (.Name "range" p) [a] [] pos) (BF ta):=by
 intro f' s σ H R I h;refine Call_ (gO I hg hm boot_range (GG (thn (ha pos f' s σ H _ I h) fun us s1 ⟨vs,H1,I1,r1,q1⟩=>?_) hs rfl));obtain ⟨j,e,q1,q2,q⟩:=q1;subst e;cases r1 with
 | cons r rr =>
  cases rr;obtain ⟨t,rfl⟩:=r;exact call_range_1 (lD I1 (by omega) (by omega) q1 q2 (by simpa using q))
theorem nV {a b:D_} {ta:TA} {p pos:Pos} (hg:Gl X "range") (hm:X.mg "range"=none) (ha:PA X [a,b] ta) (hs:j_ [a,b] X.env=[(c_,eval a X.env),(c_,eval b X.env)]:=by rfl) (hs2:j_ [b] X.env=[(c_,eval b X.env)]:=by rfl) :
 PI X tg (.Call (.Name "range" p) [a,b] [] pos) (BG ta):=by
 intro f' s σ H R I h;refine Call_ (gO I hg hm boot_range (GG (thn (ha pos f' s σ H _ I h) fun us s1 ⟨vs,H1,I1,r1,q1⟩=>?_) (by rw [hs,hs2]) (by rw [hs2]; rfl)));obtain ⟨i,j,e,⟨q1,q2,q3,q4⟩,q⟩:=q1;subst e;cases r1 with
 | cons r rr =>
  cases rr with
  | cons r' rr =>
   cases rr;obtain ⟨t,rfl⟩:=r;obtain ⟨t',rfl⟩:=r';exact call_range_2 (lD I1 q1 q2 q3 q4 q)
def Eg (wi:TI) (g:TG) (tb:TS):TS:=fun D σ H=>wi σ H fun J H1=>∃ W:Nat→Nat→St→Hp→Prop,(∃ m,W 0 m σ H1)∧∀ i m σ H,W i m σ H →
 (J.stop i H∧D.nx σ H)∨(J.go i H∧∃ N:St→Hp→Prop,(∀ σ' H',N σ' H'→∃ m',m' < m∧W (i + 1) m' σ' H')∧∀ x H',J.yld i H x H'→g x σ H' fun σ2 H2=>tb { D with nx:=N,ct:=N,bk:=D.nx } σ2 H2)
def cC (fp:List k_) (h:Fg):List (k_×Obj):=fp.filterMap fun b=>(h.get? b).map fun o=>(b,o)
theorem bJ {fp:List k_} {h:Fg} {b:k_} {o:Obj} (hb:b∈fp) (e:h.get? b=some o):(b,o)∈cC fp h:=Gc.mpr ⟨b,hb,by rw [e]; rfl⟩
theorem gQ {fp:List k_} {h:Fg} {p:k_×Obj} (hp:p∈cC fp h):p.1∈fp∧h.get? p.1=some p.2:=by
 obtain ⟨b,hb,e⟩:=Gc.mp hp;cases q:h.get? b with
 | none=>rw [q] at e; cases e
 | some o =>
  rw [q] at e;have e':(b,o)=p:=Fj e;subst e';exact ⟨hb,q⟩
theorem Inv.pinned {f':List (k_×Obj)} {σ:St} {H:Hp} {s:e_} {fp:List k_} (I:Inv X f' σ H s) (hf:∀ b∈fp,qJ X f' H b) (ho:∀ b∈fp,∃ o,s.heap.get? b=some o∧∀ v,o.data≠.cell v):Inv X (f' ++ cC fp s.heap) σ H s :=
 I.pins_of fun p hp=>(t_.mp hp).elim (fun z=>I.pin p (o_ _ z)) fun z=>by
  obtain ⟨hb,e⟩:=gQ z;obtain ⟨f0,f1,f2,_⟩:=hf p.1 hb;obtain ⟨o,e',d⟩:=ho p.1 hb;rw [e] at e'; cases e';exact ⟨e,f0,f1,f2,d⟩
theorem Inv.unpinned {f' pl:List (k_×Obj)} {σ:St} {H:Hp} {s:e_} (I:Inv X (f' ++ pl) σ H s):Inv X f' σ H s:=I.pins_of fun p hp=>I.pin p (o_ _ (ET _ hp))
theorem nW {iter:D_} {body:List F_} {wi:TI} {g:TG} {tb:TS} {pos:Pos} (hp:IV (A_ X.prog X.w) X.A X.env X.xe) (hc:X.calm=b_) (hi:PI X tg iter wi) (hg:PG X tg g) (hb:PSs X body tb)
 (hs:∀ x,Ft iter X.env x=pure x:=by intro _; rfl):PS X (.For tg iter body [] pos) (Eg wi g tb):=by
 intro f' s σ H D I h;refine wpAny_For (thn (hi f' s σ H _ I h) fun v s1 h1=>thn h1 fun itv s2 h2=>?_) hs;obtain ⟨it,fp,tn,J,H2,e,I2,T,st2,f2,W,⟨m0,w0⟩,turn⟩:=h2;subst e;have stat:∀ {H':Hp},(∀ b∈fp,H' b=none)→∀ b∈fp,qJ X f' H' b:=fun hn b hb=>⟨hn b hb,(f2 b hb).2⟩;refine codeAny_forLoop_any (fun n s'=>∃ i σ' H',Inv X f' σ' H' s'∧tn i s'.heap∧(∀ b∈fp,H' b=none)∧W i n σ' H') ?_ m0 ⟨0,σ,H2,I2,st2,fun b hb=>(f2 b hb).1,w0⟩;rintro n s3 ⟨i,σ3,H3,I3,st3,fr3,w3⟩;rcases turn i n σ3 H3 w3 with ⟨stop,qn⟩ | ⟨go,N,hN,step⟩
 · refine Hy hp (thn (T.done X rfl rfl rfl hc i f' s3 σ3 H3 X.xe I3 (stat fr3) st3 stop) fun r s4 ⟨hr,I4⟩=>?_);subst hr;exact Kc ⟨σ3,H3,I4,qn⟩
 · refine Hy hp (thn (T.item X rfl rfl rfl hc i f' s3 σ3 H3 X.xe I3 (stat fr3) st3 go) fun r s4 ⟨u,hr,h4⟩=>?_);subst hr;refine Hy hp (thn h4 fun _ s5 ⟨x,H5,I5,r5,y5,st5,fr5⟩=>?_);have I5':=I5.pinned (stat fr5) (T.obj _ _ st5);refine Hy hp (thn (hg _ s5 σ3 H5 x u _ I5' r5 (step x H5 y5)) fun _ s6 ⟨σ6,H6,I6,q6⟩=>?_);refine Hy hp (thn (hb _ s6 σ6 H6 _ I6 q6) fun f s7 q7=>?_);have again:∀ {σ7:St} {H7:Hp},Inv X (f' ++ cC fp s5.heap) σ7 H7 s7→N σ7 H7→∃ m,m < n∧∃ i σ' H',Inv X f' σ' H' s7∧tn i s7.heap∧(∀ b∈fp,H' b=none)∧W i m σ' H':=fun {σ7 H7} I7 n7=>by
    obtain ⟨m',hm,w7⟩:=hN σ7 H7 n7;refine ⟨m',hm,i + 1,σ7,H7,I7.unpinned,T.keep _ _ _ st5 fun b hb o e=>(I7.pin (b,o) (o_ _ (o_ _ (bJ hb e)))).1,fun b hb=>?_,w7⟩;obtain ⟨o,e,d⟩:=T.obj _ _ st5 b hb;exact (I7.pin (b,o) (o_ _ (o_ _ (bJ hb e)))).2.1
   cases f with
   | next=>obtain ⟨σ7,H7,I7,n7⟩:=q7; exact again I7 n7
   | cont=>obtain ⟨σ7,H7,I7,n7⟩:=q7; exact again I7 n7
   | brk=>obtain ⟨σ7,H7,I7,q7⟩:=q7; exact ⟨σ7,H7,I7.unpinned,q7⟩
   | ret v=>obtain ⟨x7,σ7,H7,I7,r7,q7⟩:=q7; exact ⟨x7,σ7,H7,I7.unpinned,r7,q7⟩
end
abbrev R2:=V→V→Hp→VK→Prop
def OpR (X:Cx) (f:d_→d_→Sem d_) (r:R2):Prop :=
 ∀ (f':List (k_×Obj)) (s:e_) (σ:St) (H:Hp) (x y:V) (v u:d_) (Q:VK),Inv X f' σ H s→RelV x v→RelV y u→r x y H Q →
  C_ (A_ X.prog X.w) X.A (f v u) (EP X f' σ Q) X.xe s
def UnR (X:Cx) (f:d_→Sem d_) (r:V→Hp→VK→Prop):Prop :=
 ∀ (f':List (k_×Obj)) (s:e_) (σ:St) (H:Hp) (x:V) (v:d_) (Q:VK),Inv X f' σ H s→RelV x v→r x H Q →
  C_ (A_ X.prog X.w) X.A (f v) (EP X f' σ Q) X.xe s
def CallR (X:Cx) (f:d_) (r:List V→Hp→VK→Prop):Prop :=
 ∀ (f':List (k_×Obj)) (s:e_) (σ:St) (H:Hp) (xs:List V) (us:List d_) (Q:VK),Inv X f' σ H s→Vals xs us→r xs H Q →
  C_ (A_ X.prog X.w) X.A (call f us) (EP X f' σ Q) X.xe s
def tOp (r:R2) (ta tb:TE):TE:=fun σ H Q=>ta σ H fun x H1=>tb σ H1 fun y H2=>r x y H2 Q
def tUn (r:V→Hp→VK→Prop) (ta:TE):TE:=fun σ H Q=>ta σ H fun x H1=>r x H1 Q
def rI (C:Int→Int→Prop) (g:Int→Int→V):R2:=fun x y H Q=>∃ i j,x=.int i∧y=.int j∧C i j∧Q (g i j) H
def rI0 (g:Int→Int→V):R2:=fun x y H Q=>∃ i j,x=.int i∧y=.int j∧Q (g i j) H
def rU (g:Int→V):V→Hp→VK→Prop:=fun x H Q=>∃ i,x=.int i∧Q (g i) H
section
variable {X:Cx} {a b c:D_} {ta tb tc:TE} {pos:Pos}
theorem BH (ha:PE X a ta) (hb:PE X b tb) {f':List (k_×Obj)} {s:e_} {σ:St} {H:Hp} {R:V→V→Hp→Prop} (I:Inv X f' σ H s)
 (h:ta σ H fun x H1=>tb σ H1 fun y H2=>R x y H2) {Q:d_→e_→Prop} {f:d_→d_→Sem d_}
 (hf:∀ v u s2 x y H2,Inv X f' σ H2 s2→RelV x v→RelV y u→R x y H2→C_ (A_ X.prog X.w) X.A (f v u) Q X.xe s2) :
 C_ (A_ X.prog X.w) X.A (eval a X.env) (fun v s₁=>C_ (A_ X.prog X.w) X.A (eval b X.env) (fun u s₂=>C_ (A_ X.prog X.w) X.A (f v u) Q X.xe s₂) X.xe s₁) X.xe s:=by
 refine thn (ha f' s σ H _ I h) fun v s1 ⟨x,H1,I1,r1,q1⟩=>?_;refine thn (hb f' s1 σ H1 _ I1 q1) fun u s2 ⟨y,H2,I2,r2,q2⟩=>?_;exact hf v u s2 x y H2 I2 r1 r2 q2
theorem xM {op:Operator} {r:R2} (ho:OpR X (GE op) r) (ha:PE X a ta) (hb:PE X b tb):PE X (.BinOp a op b pos) (tOp r ta tb):=by
 intro f' s σ H Q I h;exact wpAny_BinOp (BH ha hb I h fun v u s2 x y H2 I2 rx ry q=>ho f' s2 σ H2 x y v u Q I2 rx ry q)
theorem BI {op:UnaryOp} {r:V→Hp→VK→Prop} (ho:UnR X (unaryOp op) r) (ha:PE X a ta):PE X (.UnaryOp op a pos) (tUn r ta):=by
 intro f' s σ H Q I h;exact UnaryOp_ (thn (ha f' s σ H _ I h) fun v s1 ⟨x,H1,I1,r1,q1⟩=>ho f' s1 σ H1 x v Q I1 r1 q1)
theorem opI {f:d_→d_→Sem d_} {C:Int→Int→Prop} {g:Int→Int→Int}
 (rule:∀ (i j:Int) (t u:Tok) (s:e_) (Q:d_→e_→Prop) (E:d_→e_→Prop),C i j→Q (.int (g i j) s.toks) { s with toks:=s.toks + 1 }→C_ (A_ X.prog X.w) X.A (f (.int i t) (.int j u)) Q E s) :
 OpR X f (rI C fun i j=>.int (g i j)):=by
 intro f' s σ H x y v u Q I rx ry h;obtain ⟨i,j,rfl,rfl,hc,q⟩:=h;obtain ⟨t,rfl⟩:=rx;obtain ⟨t',rfl⟩:=ry;exact rule i j t t' s _ _ hc ⟨.int (g i j),H,I.tok _,⟨_,rfl⟩,q⟩
theorem DA {f:d_→d_→Sem d_} {g:Int→Int→Int}
 (rule:∀ (i j:Int) (t u:Tok) (s:e_) (Q:d_→e_→Prop) (E:d_→e_→Prop),Q (.int (g i j) s.toks) { s with toks:=s.toks + 1 }→C_ (A_ X.prog X.w) X.A (f (.int i t) (.int j u)) Q E s) :
 OpR X f (rI0 fun i j=>.int (g i j)):=by
 intro f' s σ H x y v u Q I rx ry h;obtain ⟨i,j,rfl,rfl,q⟩:=h;obtain ⟨t,rfl⟩:=rx;obtain ⟨t',rfl⟩:=ry;exact rule i j t t' s _ _ ⟨.int (g i j),H,I.tok _,⟨_,rfl⟩,q⟩
theorem BJ {f:d_→d_→Sem d_} {g:Int→Int→Bool}
 (rule:∀ (i j:Int) (t u:Tok) (s:e_) (Q:d_→e_→Prop) (E:d_→e_→Prop),Q (.bool (g i j)) s→C_ (A_ X.prog X.w) X.A (f (.int i t) (.int j u)) Q E s) :
 OpR X f (rI0 fun i j=>.bl (g i j)):=by
 intro f' s σ H x y v u Q I rx ry h;obtain ⟨i,j,rfl,rfl,q⟩:=h;obtain ⟨t,rfl⟩:=rx;obtain ⟨t',rfl⟩:=ry;exact rule i j t t' s _ _ ⟨.bl (g i j),H,I,rfl,q⟩
def DB (i j:Int):Prop:=0 < j∧j < 1073741824
def CMul (i j:Int):Prop:=(-(2 ^ 64) < i∧i < 2 ^ 64)∨(-(2 ^ 64) < j∧j < 2 ^ 64)
theorem CMul.ok {i j:Int} (h:CMul i j):IntMulOk i j:=by
 rcases h with ⟨h1,h2⟩ | ⟨h1,h2⟩
 · exact .of_left (intBits_le_64 h1 h2)
 · exact .of_right (intBits_le_64 h1 h2)
theorem op_add:OpR X (GE .Add) (rI0 fun i j=>.int (i + j)):=DA fun _ _ _ _ _ _ _ q=>add_int q
theorem xN:OpR X (GE .Sub) (rI0 fun i j=>.int (i - j)):=DA fun _ _ _ _ _ _ _ q=>sub_int q
theorem tj:OpR X (GE .Mult) (rI CMul fun i j=>.int (i * j)):=opI fun _ _ _ _ _ _ _ hc q=>mul_int q hc.ok
theorem uD:OpR X (GE .FloorDiv) (rI DB fun i j=>.int (i / j)):=opI fun i j _ _ _ _ _ hc q=>by
 have h1:(0:Int) < j:=hc.1;have h2:j < 1073741824:=hc.2;exact floordiv_int (by omega) (by rw [Int.fdiv_eq_ediv_of_nonneg i (by omega)]; exact q) (.inl (PyProof.noPylong_small (by omega)))
theorem xO:OpR X (GE .Mod) (rI (fun _ j=>0 < j) fun i j=>.int (i % j)):=opI fun i j _ _ _ _ _ hc q=>by
 have h1:(0:Int) < j:=hc;exact mod_int' (by omega) (by rw [Int.fmod_eq_emod_of_nonneg i (by omega)]; exact q)
theorem unI {f:d_→Sem d_} {g:Int→Int}
 (rule:∀ (i:Int) (t:Tok) (s:e_) (Q:d_→e_→Prop) (E:d_→e_→Prop),Q (.int (g i) s.toks) { s with toks:=s.toks + 1 }→C_ (A_ X.prog X.w) X.A (f (.int i t)) Q E s) :
 UnR X f (rU fun i=>.int (g i)):=by
 intro f' s σ H x v Q I rx h;obtain ⟨i,rfl,q⟩:=h;obtain ⟨t,rfl⟩:=rx;exact rule i t s _ _ ⟨.int (g i),H,I.tok _,⟨_,rfl⟩,q⟩
theorem xP:UnR X (unaryOp .USub) (rU fun i=>.int (-i)):=unI fun _ _ _ _ _ q=>neg_int q
end
def BK:V→V→Bool
 | .non,.non=>b_ | .non,.int _=>b_ | .int _,.non=>b_ | .non,.bl _=>b_ | .bl _,.non=>b_ | .non,.str _=>b_ | .str _,.non=>b_
 | .int _,.int _=>b_ | .bl _,.bl _=>b_ | .str _,.str _=>b_ | .byt _,.byt _=>b_
 | .int _,.str _=>b_ | .str _,.int _=>b_ | .bl _,.str _=>b_ | .str _,.bl _=>b_
 | _,_=>c_
def rEq:R2:=fun x y H Q=>BK x y=b_∧Q (.bl (h_ (x=y))) H
def rNe:R2:=fun x y H Q=>BK x y=b_∧Q (.bl (!h_ (x=y))) H
theorem kB {i j:Int}:h_ (V.int i=V.int j)=(i == j):=by
 rw [Fv];simp
theorem nX {i j:Bool}:h_ (V.bl i=V.bl j)=(i == j):=by
 rw [Fv];simp
theorem kG {i j:Str}:h_ (V.str i=V.str j)=(i == j):=by
 rw [Fv];simp
theorem nY {i j:Array UInt8}:h_ (V.byt i=V.byt j)=(i.toList == j.toList):=by
 rw [Fv];cases i;cases j;simp
section
variable {X:Cx} {a b c:D_} {ta tb tc:TE} {pos:Pos}
theorem aK {f':List (k_×Obj)} {σ:St} {H:Hp} {s:e_} {Q:VK} {k k':Bool} (I:Inv X f' σ H s) (q:Q (.bl k) H) (e:k=k'):EP X f' σ Q (.bool k') s:=by
 subst e;exact ⟨.bl k,H,I,rfl,q⟩
theorem op_eq:OpR X (Fp .Eq) rEq:=by
 intro f' s σ H x y v u Q I rx ry h;obtain ⟨hs,q⟩:=h;cases x with
 | non =>
  cases rx;cases y with
  | non=>cases ry; exact PySem.EqNone.eq_none_none (aK I q (by simp))
  | bl j=>cases ry; exact PySem.EqNone.eq_none_bool (aK I q (by simp))
  | int j=>obtain ⟨t',rfl⟩:=ry; exact PySem.EqNone.eq_none_int (aK I q (by simp))
  | str j=>obtain ⟨t',rfl⟩:=ry; exact PySem.EqNone.eq_none_str (aK I q (by simp))
  | _=>exact absurd (show c_=b_ from hs) n_
 | bl i =>
  cases rx;cases y with
  | non=>cases ry; exact PySem.EqNone.eq_bool_none (aK I q (by simp))
  | bl j=>cases ry; exact eq_bool (aK I q nX)
  | str j=>obtain ⟨t',rfl⟩:=ry; exact PySem.EqMixed.eq_bool_str (aK I q (by simp))
  | _=>exact absurd (show c_=b_ from hs) n_
 | int i =>
  obtain ⟨t,rfl⟩:=rx;cases y with
  | non=>cases ry; exact PySem.EqNone.eq_int_none (aK I q (by simp))
  | int j=>obtain ⟨t',rfl⟩:=ry; exact eq_int (aK I q kB)
  | str j=>obtain ⟨t',rfl⟩:=ry; exact PySem.EqMixed.eq_int_str (aK I q (by simp))
  | _=>exact absurd (show c_=b_ from hs) n_
 | str i =>
  obtain ⟨t,rfl⟩:=rx;cases y with
  | non=>cases ry; exact PySem.EqNone.eq_str_none (aK I q (by simp))
  | bl j=>cases ry; exact PySem.EqMixed.eq_str_bool (aK I q (by simp))
  | int j=>obtain ⟨t',rfl⟩:=ry; exact PySem.EqMixed.eq_str_int (aK I q (by simp))
  | str j=>obtain ⟨t',rfl⟩:=ry; exact eq_str (aK I q kG)
  | _=>exact absurd (show c_=b_ from hs) n_
 | byt i =>
  obtain ⟨t,rfl⟩:=rx;cases y with
  | byt j=>obtain ⟨t',rfl⟩:=ry; exact PySem.W.eq_bytes (aK I q nY)
  | _=>exact absurd (show c_=b_ from hs) n_
 | _=>cases y <;> exact absurd (show c_=b_ from hs) n_
theorem op_ne:OpR X (Fp .NotEq) rNe:=by
 intro f' s σ H x y v u Q I rx ry h;obtain ⟨hs,q⟩:=h;cases x with
 | non =>
  cases rx;cases y with
  | non=>cases ry; exact PySem.EqNone.ne_none_none (aK I q (by simp))
  | bl j=>cases ry; exact PySem.EqNone.ne_none_bool (aK I q (by simp))
  | int j=>obtain ⟨t',rfl⟩:=ry; exact PySem.EqNone.ne_none_int (aK I q (by simp))
  | str j=>obtain ⟨t',rfl⟩:=ry; exact PySem.EqNone.ne_none_str (aK I q (by simp))
  | _=>exact absurd (show c_=b_ from hs) n_
 | bl i =>
  cases rx;cases y with
  | non=>cases ry; exact PySem.EqNone.ne_bool_none (aK I q (by simp))
  | bl j=>cases ry; exact ne_bool (aK I q (congrArg not nX))
  | str j=>obtain ⟨t',rfl⟩:=ry; exact PySem.EqMixed.ne_bool_str (aK I q (by simp))
  | _=>exact absurd (show c_=b_ from hs) n_
 | int i =>
  obtain ⟨t,rfl⟩:=rx;cases y with
  | non=>cases ry; exact PySem.EqNone.ne_int_none (aK I q (by simp))
  | int j=>obtain ⟨t',rfl⟩:=ry; exact ne_int (aK I q (congrArg not kB))
  | str j=>obtain ⟨t',rfl⟩:=ry; exact PySem.EqMixed.ne_int_str (aK I q (by simp))
  | _=>exact absurd (show c_=b_ from hs) n_
 | str i =>
  obtain ⟨t,rfl⟩:=rx;cases y with
  | non=>cases ry; exact PySem.EqNone.ne_str_none (aK I q (by simp))
  | bl j=>cases ry; exact PySem.EqMixed.ne_str_bool (aK I q (by simp))
  | int j=>obtain ⟨t',rfl⟩:=ry; exact PySem.EqMixed.ne_str_int (aK I q (by simp))
  | str j=>obtain ⟨t',rfl⟩:=ry; exact ne_str (aK I q (congrArg not kG))
  | _=>exact absurd (show c_=b_ from hs) n_
 | byt i =>
  obtain ⟨t,rfl⟩:=rx;cases y with
  | byt j=>obtain ⟨t',rfl⟩:=ry; exact PySem.W.ne_bytes (aK I q (congrArg not nY))
  | _=>exact absurd (show c_=b_ from hs) n_
 | _=>cases y <;> exact absurd (show c_=b_ from hs) n_
theorem op_lt:OpR X (Fp .Lt) (rI0 fun i j=>.bl (h_ (i < j))):=BJ fun _ _ _ _ _ _ _ q=>lt_int q
theorem op_le:OpR X (Fp .LtE) (rI0 fun i j=>.bl (h_ (i≤j))):=BJ fun _ _ _ _ _ _ _ q=>le_int q
theorem BL:OpR X (Fp .Gt) (rI0 fun i j=>.bl (h_ (j < i))):=BJ fun _ _ _ _ _ _ _ q=>gt_int q
theorem nZ:OpR X (Fp .Lt) (fun x y H Q=>∃ i j,x=.str i∧y=.str j∧Q (.bl (h_ (i.cps.toList < j.cps.toList))) H):=by
 intro f' s σ H x y v u Q I rx ry h;obtain ⟨i,j,rfl,rfl,q⟩:=h;obtain ⟨t,rfl⟩:=rx;obtain ⟨t',rfl⟩:=ry;exact lt_str (aK I q rfl)
theorem op_in_str:OpR X (Fp .In) (fun x y H Q=>∃ i j,x=.str i∧y=.str j∧Q (.bl (!(FM j i 0 j.length 1).isEmpty)) H):=by
 intro f' s σ H x y v u Q I rx ry h;obtain ⟨i,j,rfl,rfl,q⟩:=h;obtain ⟨t,rfl⟩:=rx;obtain ⟨t',rfl⟩:=ry;exact in_str (aK I q rfl)
theorem xQ:OpR X (Fp .Is) (fun x y H Q=>y=.non∧Q (.bl (h_ (x=.non))) H):=by
 intro f' s σ H x y v u Q I rx ry h;obtain ⟨rfl,q⟩:=h;cases ry;refine is_none_gen (aK I q ?_);cases x <;> first
  | (cases rx; rfl)
  | (obtain ⟨t,rfl⟩:=rx; rfl)
theorem uE:OpR X (Fp .IsNot) (fun x y H Q=>y=.non∧Q (.bl (!h_ (x=.non))) H):=by
 intro f' s σ H x y v u Q I rx ry h;obtain ⟨rfl,q⟩:=h;cases ry;refine isnot_none_gen (aK I q ?_);cases x <;> first
  | (cases rx; rfl)
  | (obtain ⟨t,rfl⟩:=rx; rfl)
theorem OpR.or {f:d_→d_→Sem d_} {r r':R2} (h:OpR X f r) (h':OpR X f r'):OpR X f (fun x y H Q=>r x y H Q∨r' x y H Q):=by
 intro f' s σ H x y v u Q I rx ry q;rcases q with q | q
 · exact h f' s σ H x y v u Q I rx ry q
 · exact h' f' s σ H x y v u Q I rx ry q
theorem DC (b:D_) {op:CmpOp} (h:op≠.In:=by decide) (h2:op≠.NotIn:=by decide):Fk op b=c_:=by
 have e1:(op == CmpOp.In)=c_:=by cases op <;> first | rfl | exact absurd rfl h
 have e2:(op == CmpOp.NotIn)=c_:=by cases op <;> first | rfl | exact absurd rfl h2
 cases b <;> simp [Fk,e1,e2]
theorem uF {op:CmpOp} {r:R2} (ho:OpR X (Fp op) r) (ha:PE X a ta) (hb:PE X b tb) (hm:Fk op b=c_):PE X (.Compare a [op] [b] pos) (tOp r ta tb):=by
 intro f' s σ H Q I h;exact wpAny_Compare1 (BH ha hb I h fun v u s2 x y H2 I2 rx ry q=>ho f' s2 σ H2 x y v u Q I2 rx ry q) hm
def BM (t:TE):TT:=fun σ H Q=>t σ H fun x H'=>∃ k,x=.bl k∧Q k H'
theorem uG {op:CmpOp} {r:R2} (ho:OpR X (Fp op) r) (ha:PE X a ta) (hb:PE X b tb) (hm:Fk op b=c_):PT X (.Compare a [op] [b] pos) (BM (tOp r ta tb)):=by
 intro f' s σ H Q I h;refine wpAny_isTrue_Compare1 (thn (ha f' s σ H _ I h) fun v s1 ⟨x,H1,I1,r1,q1⟩=>thn (hb f' s1 σ H1 _ I1 q1) fun u s2 ⟨y,H2,I2,r2,q2⟩ =>
  thn (ho f' s2 σ H2 x y v u _ I2 r1 r2 q2) fun c s3 ⟨z,H3,I3,r3,k,e,q3⟩=>?_) hm
 subst e;cases r3;exact GO ⟨H3,I3,q3⟩
theorem jA:(sizeLine:Nat) < 2 ^ 63:=by rw [HK]; decide
theorem op_add_str:OpR X (GE .Add) (fun x y H Q=>∃ i j,x=.str i∧y=.str j∧i.length + j.length≤sizeLine∧Q (.str (i ++ j)) H):=by
 intro f' s σ H x y v u Q I rx ry h;obtain ⟨i,j,rfl,rfl,hz,q⟩:=h;obtain ⟨t,rfl⟩:=rx;obtain ⟨t',rfl⟩:=ry;exact add_str (fun t' tk=>⟨.str (i ++ j),H,I.tok _,⟨_,rfl⟩,q⟩) hz
theorem gw {x:V} {us:List d_} (r:Vals [x] us):∃ u,us=[u]∧RelV x u:=by
 cases r with
 | cons r1 r2=>cases r2; exact ⟨_,rfl,r1⟩
theorem xR {x y:V} {us:List d_} (r:Vals [x,y] us):∃ u w',us=[u,w']∧RelV x u∧RelV y w':=by
 cases r with
 | cons r1 r2 =>
  cases r2 with
  | cons r3 r4=>cases r4; exact ⟨_,_,rfl,r1,r3⟩
theorem jB:CallR X (.type "str") (fun xs H Q=>∃ i,xs=[.int i]∧i.natAbs.log2 < 1920∧Q (.str (toString i)) H):=by
 intro f' s σ H xs us Q I r h;obtain ⟨i,rfl,hz,q⟩:=h;obtain ⟨u,rfl,t,rfl⟩:=gw r;exact PySem.P.str_of_int hz ⟨.str _,H,I.tok _,⟨_,rfl⟩,q⟩
def Eh (K:ck) (x:V) (H:Hp) (n:Nat):Prop :=
 match x with
 | .str y=>y.length≤sizeLine∧n=y.length
 | .byt y=>y.size≤sizeLine∧n=y.size
 | .ref p=>(∃ xs,SqL K H p xs∧n=xs.length)∨∃ xs,SqT K H p xs∧n=xs.length
 | _=>False
theorem qV:CallR X (.builtin "len") (fun xs H Q=>∃ x n,xs=[x]∧Eh X.K x H n∧Q (.int n) H):=by
 intro f' s σ H xs us Q I r h;obtain ⟨x,n,rfl,e,q⟩:=h;obtain ⟨u,rfl,rx⟩:=gw r;have hl:=jA;have hs:sizeLine=16777216:=HK;cases x with
 | str y =>
  obtain ⟨t,rfl⟩:=rx;obtain ⟨hy,e'⟩:y.length≤sizeLine∧n=y.length:=e;subst e';exact len_str (by omega) ⟨.int _,H,I.tok _,⟨_,rfl⟩,q⟩
 | byt y =>
  obtain ⟨t,rfl⟩:=rx;obtain ⟨hy,e'⟩:y.size≤sizeLine∧n=y.size:=e;subst e';exact PySem.W.len_bytes (by omega) ⟨.int _,H,I.tok _,⟨_,rfl⟩,q⟩
 | ref p =>
  cases rx;have e':(∃ xs,SqL X.K H p xs∧n=xs.length)∨∃ xs,SqT X.K H p xs∧n=xs.length:=e;rcases e' with ⟨xs,hx,e'⟩ | ⟨xs,hx,e'⟩
  · subst e';obtain ⟨its,r',pl,hz⟩:=I.list hx;have hlen:=r'.length;exact Calls.call_len_list pl.isList (by simp only [v_]; omega) ⟨.int xs.length,H,I.tok _,⟨_,by simp only [v_]; rw [hlen]⟩,q⟩
  · subst e';obtain ⟨its,r',pl,hz⟩:=I.tuple hx;have hlen:=r'.length;exact len_tuple pl (by simp only [v_]; omega) ⟨.int xs.length,H,I.tok _,⟨_,by simp only [v_]; rw [hlen]⟩,q⟩
 | _=>exact (show False from e).elim
end
structure ObjM (h:Fg) (x dx C:k_) (mA:Str→Option d_):Prop where
 obj:h.get? x=some (GK C dx)
 ns:h.Ns1 dx mA
 ne:dx≠x
theorem n4 {h:Fg} {dx:k_} {mA:Str→Option d_} (n:h.Ns1 dx mA):∃ od,h.get? dx=some od∧∀ name,Ks name od=some (mA name):=by
 obtain ⟨o,es,ep,ho,hd,hk,_,hm⟩:=n;refine ⟨o,ho,fun name=>?_⟩;have e:=hm name;unfold nsFind findBy at e;rw [← Array.find?_toList] at e;unfold Ks;rw [hd];dsimp only;split
 · rename_i y q;rw [q] at e;exact congrArg some e
 · rename_i q;rw [q] at e;have a:es.toList.any (·.refKey)=c_:=by
    rw [List.any_eq_false];intro y hy;obtain ⟨z,t,hkey⟩:=hk y (FB.mp hy);simp [DictEntry.refKey,hkey]
   have a':¬ es.toList.any (·.refKey)=b_:=by rw [a]; exact n_
   rw [if_neg a'];exact congrArg some e
theorem ObjM.look {h:Fg} {x dx C:k_} {mA:Str→Option d_} (I:ObjM h x dx C mA):∃ od,PySem.W.InstAt h x (GK C dx) C (some od)∧∀ name,Ks name od=some (mA name) :=
 let ⟨od,ho,hl⟩:=n4 I.ns
 ⟨od,⟨I.obj,rfl,rfl,ho⟩,hl⟩
section
variable {prog:pi} {w:EO} {A:EQ} {E:d_→e_→Prop} {s:e_} {K:ck} {x dx C f:k_} {mA:Str→Option d_} {name:Str} {v:d_}
end
section
variable {P:pi} {w:EO} {H H':Hp} {h h':Fg} {a C dx:k_} {fs fs':List (Str×V)}
theorem uH (hok:HOk P w H h) (e:H a=some (.ins C dx fs)):∃ mA,ObjM h a dx C mA∧(∀ f,Bw (fs.lookup f) (mA f))∧PySem.Within mA (fs.map (·.1))∧fs.length≤1000∧H dx=some (.own a):=by
 obtain ⟨d,z,ne,ob,mA,n,r,q⟩:=(show ObjOk P w H h a (.ins C dx fs) from hok a _ e);exact ⟨mA,⟨ob,n,ne⟩,r,q,z,d⟩
end
structure Cls (K:ck) (C:k_):Prop where
 pg:LX K C KN=b_
 hd:PySem.W.hasDictIn K C=b_
 po:PySem.W.plainOver K C=b_
 sa:Mz K (.ref C) "__setattr__"=some (some (.builtin "object.__setattr__"))
theorem Cls.get {K:ck} {C:k_} (c:Cls K C) (f:Str):LX K C f=b_:=c.pg
section
variable {X:Cx} {f':List (k_×Obj)} {σ:St} {H:Hp} {s:e_} {a C dx:k_} {fs:List (Str×V)} {f:Str} {v:V} {A:EQ} {E:d_→e_→Prop}
theorem Inv.made (I:Inv X f' σ H s):Inv X f' σ (upd (upd H s.heap.objs.size (.own (s.heap.objs.size + 1))) (s.heap.objs.size + 1) (.ins C s.heap.objs.size []))
 { s with heap:=(s.heap.push Gk).push (GK C s.heap.objs.size) }:=by
 have e1:(s.heap.push Gk).get? s.heap.objs.size=some Gk:=EY s.heap rfl;have e2:((s.heap.push Gk).push (GK C s.heap.objs.size)).get? (s.heap.objs.size + 1)=some (GK C s.heap.objs.size):=by
  have:=EY (s.heap.push Gk) (o:=GK C s.heap.objs.size) rfl
  rwa [Gz] at this
 have e3:(s.heap.push Gk).Ns s.heap.objs.size (fun _=>none):=⟨Gk,#[],_,e1,rfl,(fun e he=>absurd he (by simp)),fun _=>rfl⟩;have I1:=I.laid (a:=s.heap.objs.size) (o:=.own (s.heap.objs.size + 1)) (h':=s.heap.push Gk) (t':=s.toks) (fun b u q=>on _ q) (p_ _) ⟨_,e1⟩;refine I1.laid (a:=s.heap.objs.size + 1) (o:=.ins C s.heap.objs.size []) (t':=s.toks) (fun b u q=>on _ q) (Ib (Gz _ _)) ?_;have ne:s.heap.objs.size≠s.heap.objs.size + 1:=Fy (L_ _);refine ⟨by rw [ay ne,ar],F7 _,ne,e2,fun _=>none,(Heap.Ns1.of_empty e3).at fun o q=>on _ q,fun _=>IY,fun y hy=>absurd rfl hy⟩
end
section
variable {X:Cx} {o e value:D_} {f:Str} {pos pos' tpos:Pos} {ta tv:TE}
end
section
variable {X:Cx} {f':List (k_×Obj)} {σ:St} {H:Hp} {s:e_} {A:EQ} {E:d_→e_→Prop} {Q:d_→e_→Prop} {c:d_} {b:Bool}
inductive lE (K:ck) (H:Hp):V→d_→Prop where
 | non:lE K H .non (.type "NoneType")
 | bl (x:Bool):lE K H (.bl x) (.type "bool")
 | int (i:Int):lE K H (.int i) (.type "int")
 | str (x:Str):lE K H (.str x) (.type "str")
 | flt (x:UInt64):lE K H (.flt x) (.type "float")
 | lst {a:k_} {xs:List V} (e:H a=some (.lst xs)):lE K H (.ref a) (.type "list")
 | frz {a:k_} {o:Obj} {xs:List V} (e:H a=some (.frz o (.lst xs))):lE K H (.ref a) (.type "list")
 | tup {a:k_} {xs:List V} (e:H a=some (.tup xs)):lE K H (.ref a) (.type "tuple")
 | dK {a:k_} {kvs:List (Key×V)} (e:H a=some (.dK kvs)):lE K H (.ref a) (.type "dict")
 | dT {a:k_} {kvs:List (List Key×V)} (e:H a=some (.dT kvs)):lE K H (.ref a) (.type "dict")
 | ins {a C dx:k_} {fs:List (Str×V)} (e:H a=some (.ins C dx fs)) (cl:Cls K C) (ha:Mz K (.ref C) "__class__"=some (some (.builtin "object.__class__")))
  (hn:PySem.W.specialIn K (.builtin "object.__class__") "__get__"=some (some (.builtin "getset_descriptor.__get__"))) (htk:PySem.W.takesIn K (.builtin "object.__class__")=some b_)
  (hm:PySem.W.mroIn K C (.type "object")=some b_):lE K H (.ref a) (.ref C)
theorem n8 {x:V} {u t:d_} (I:Inv X f' σ H s) (rx:RelV x u) (ty:lE X.K H x t) (e:GV X.K t c=some b) (h:∀ tk,Q (.bool b) { s with toks:=tk }) :
 C_ (A_ X.prog X.w) A (call (.builtin "isinstance") [u,c]) Q E s:=by
 cases ty with
 | non=>cases (show u=FF from rx); exact F1 PySem.W.kitx_none I.kIn IY e (fun z=>nomatch z) h
 | bl y=>cases (show u=Gb y from rx); exact F1 PySem.W.kitx_bool I.kIn IY e (fun z=>nomatch z) h
 | int i=>obtain ⟨t,q⟩:=(show ∃ t,u=LY i t from rx); cases q; exact F1 PySem.W.kitx_int I.kIn IY e (fun z=>nomatch z) h
 | str y=>obtain ⟨t,q⟩:=(show ∃ t,u=Hr y t from rx); cases q; exact F1 PySem.W.kitx_str I.kIn IY e (fun z=>nomatch z) h
 | flt y=>obtain ⟨t,q⟩:=(show ∃ t,u=Value.float y t from rx); cases q; exact F1 PySem.W.kitx_float I.kIn IY e (fun z=>nomatch z) h
 | @lst a xs ea =>
  cases (show u=w_ a from rx);obtain ⟨_,_,n,_,h1⟩:=(show ObjOk X.prog X.w H s.heap a (.lst xs) from I.hok a _ ea);exact F1 Ly I.kIn ⟨_,h1,rfl⟩ e (fun z=>nomatch z) h
 | @frz a ob xs ea =>
  cases (show u=w_ a from rx);obtain ⟨_,_,_,n,_,h1⟩:=(show ObjOk X.prog X.w H s.heap a (.frz ob (.lst xs)) from I.hok a _ ea);exact F1 Ly I.kIn ⟨_,h1,rfl⟩ e (fun z=>nomatch z) h
 | @tup a xs ea =>
  cases (show u=w_ a from rx);obtain ⟨_,_,_,p⟩:=(show ObjOk X.prog X.w H s.heap a (.tup xs) from I.hok a _ ea);obtain ⟨o,h1,h2,_⟩:=p;exact F1 PySem.W.kitx_tuple I.kIn ⟨o,h1,h2⟩ e (fun z=>nomatch z) h
 | @dK a kvs ea =>
  cases (show u=w_ a from rx);obtain ⟨_,_,vs,_,p⟩:=(show ObjOk X.prog X.w H s.heap a (.dK kvs) from I.hok a _ ea);obtain ⟨o,es,ep,h1,h2,_⟩:=p;exact F1 Lz I.kIn ⟨o,h1,h2.1⟩ e (fun z=>nomatch z) h
 | @dT a kvs ea =>
  cases (show u=w_ a from rx);obtain ⟨_,_,xs,_,o,es,ep,h1,h2,_⟩:=(show ObjOk X.prog X.w H s.heap a (.dT kvs) from I.hok a _ ea);exact F1 Lz I.kIn ⟨o,h1,h2.1⟩ e (fun z=>nomatch z) h
 | @ins a C dx fs ea cl ha hn htk hm =>
  cases (show u=w_ a from rx);obtain ⟨mA,O,_⟩:=uH I.hok ea;obtain ⟨od,J,_⟩:=O.look;exact F1 (PySem.W.kitx_own (cl.get _) cl.hd ha hn htk hm) I.kIn J e (fun z=>nomatch z) h
end
structure Room (k:Nat) (A:EQ):Prop where
 hd:A.handled=none
 dp:A.depth + 3 * k + 5 < recursionLimit
 un:A.units + 16 * k + 200 < cLine
 gd:A.guards=some []
theorem Room.mono {j k:Nat} {A:EQ} (r:Room k A) (h:j≤k):Room j A:=⟨r.hd,by have:=r.dp; omega,by have:=r.un; omega,r.gd⟩
theorem Room.deeper {k:Nat} {A:EQ} (r:Room (k + 1) A) (env:Env):Room k (A.deeper env) :=
 ⟨r.hd,by have:=r.dp; show A.depth + 1 + 3 * k + 5 < _; omega,by have:=r.un; show A.units + 3 + 16 * k + 200 < _; omega,r.gd⟩
theorem Room.in1 {k:Nat} {A:EQ} (r:Room (k + 1) A):Room k A.in1 :=
 ⟨r.hd,by have:=r.dp; show A.depth + 3 * k + 5 < _; omega,by have:=r.un; show A.units + 1 + 16 * k + 200 < _; omega,r.gd⟩
theorem Room.depth {k:Nat} {A:EQ} (r:Room k A):A.depth < recursionLimit:=by have:=r.dp; omega
theorem Room.units {k:Nat} {A:EQ} (r:Room k A):A.units + 64 < cLine:=by have:=r.un; omega
theorem Room.units0 {k:Nat} {A:EQ} (r:Room k A):A.units < cLine:=by have:=r.un; omega
def Ei:TA:=fun _ H Q=>Q [] H
def BN (ta:TE) (tr:TA):TA:=fun σ H Q=>ta σ H fun x H1=>tr σ H1 fun xs H2=>Q (x :: xs) H2
section
variable {X:Cx} {e:D_} {es:List D_} {te:TE} {t:TA} {pos:Pos}
theorem lF:PA X [] Ei:=fun _ _ _ _ H Q I h=>LC ⟨[],H,I,.nil,h⟩
theorem eT (ha:PE X e te) (hr:PA X es t) (hs:j_ (e :: es) X.env=(c_,eval e X.env) :: j_ es X.env:=by rfl):PA X (e :: es) (BN te t):=by
 intro pos f' s σ H Q I h;rw [hs];show C_ _ _ (spliced ((c_,eval e X.env) :: FV pos (j_ es X.env))) _ _ s;refine Lh (thn (ha f' s σ H _ I h) fun u s1 ⟨x,H1,I1,r1,q1⟩=>?_);exact thn (hr pos f' s1 σ H1 _ I1 q1) fun us s2 ⟨xs,H2,I2,r2,q2⟩=>⟨x :: xs,H2,I2,.cons r1 r2,q2⟩
def Ej (t:TA):TE:=fun σ H Q=>t σ H fun xs H1=>xs.length≤sizeLine∧∀ p,H1 p=none→Q (.ref p) (upd H1 p (.tup xs))
def Ek (t:TA):TE:=fun σ H Q=>t σ H fun xs H1=>xs.length≤sizeLine∧∀ p,H1 p=none→Q (.ref p) (upd H1 p (.lst xs))
theorem xS {x1} (h:PA X es t):PE X (.Tuple es x1 pos) (Ej t):=by
 intro f' s σ H Q I hq;refine wpAny_Tuple_spliced (thn (h pos f' s σ H _ I hq) fun us s1 ⟨xs,H1,I1,r,z,q⟩=>⟨by rw [← r.length]; exact z,?_⟩);have hf:H1 s1.heap.objs.size=none:=I1.hok.fresh (p_ _);refine ⟨.ref s1.heap.objs.size,upd H1 s1.heap.objs.size (.tup xs),I1.laid (t':=s1.toks) (fun b u e=>on _ e) (p_ _) ?_,rfl,q _ hf⟩;exact ⟨z,us,r,⟨_,EY _ rfl,rfl,_,rfl⟩⟩
theorem tq (h:PA X es t):PE X (.List es pos) (Ek t):=by
 intro f' s σ H Q I hq;refine wpAny_List_spliced (thn (h pos f' s σ H _ I hq) fun us s1 ⟨xs,H1,I1,r,z,q⟩=>⟨by rw [← r.length]; exact z,?_⟩);have hf:H1 s1.heap.objs.size=none:=I1.hok.fresh (p_ _);refine ⟨.ref s1.heap.objs.size,upd H1 s1.heap.objs.size (.lst xs),I1.laid (t':=s1.toks) (fun b u e=>on _ e) (p_ _) ?_,rfl,q _ hf⟩;exact ⟨z,us,0,r,EY _ rfl⟩
end
abbrev Sp:=List V→Hp→VK→XK→Prop
abbrev CXT:=List Env→Hp→e_→XK→d_→e_→Prop
structure Env0 (P:pi) (w:EO) (K:ck) (mg:Str→Option d_) (base:Fg) (A:EQ) (outer:List Env) (s:e_) (H:Hp):Prop where
 frames:A.frames=some outer
 mod:Mod K mg base
 bs:∀ b o,base.get? b=some o→s.heap.get? b=some o∧H b=none
 bsz:base.objs.size≤s.heap.objs.size
 funs:s.heap.FunFrames base outer
 frf:∀ b∈frs outer,H b=none
 hok:HOk P w H s.heap
 bare:IT s.gens
def CE (outer:List Env) (P:pi) (w:EO) (H:Hp) (s:e_) (Q:VK) (u:d_) (s':e_):Prop :=
 ∃ v H',s'.os=s.os∧IT s'.gens∧Un (frs outer) [] H H' s.heap s'.heap∧HOk P w H' s'.heap∧RelV v u∧Q v H'
def CR (CX:CXT) (outer:List Env) (P:pi) (w:EO) (H:Hp) (s:e_) (Q:VK) (E:XK) (r:Ld) (s':e_):Prop :=
 match r with
 | .ok (.ret u)=>CE outer P w H s Q u s'
 | .ok _=>False
 | .error e=>CX outer H s E e s'
structure FnOk (P:pi) (w:EO) (K:ck) (mg:Str→Option d_) (base:Fg) (CX:CXT) (k:Nat) (f:k_) (fd:F3) (ps:List Str) (sp:Sp):Prop where
 len:∀ vs H Q E,sp vs H Q E→vs.length=ps.length
 run:∀ (A:EQ) (outer:List Env) (s:e_) (H:Hp) (args:Args) (us:List d_) (vs:List V) (Q:VK) (E:XK),Room k A→Env0 P w K mg base A outer s H→KO s fd args (ps.zip us)→Vals vs us→sp vs H Q E →
  HW (A_ P w) A (.call (.ref f) args) (CR CX outer P w H s Q E) s
theorem FnOk.mono {P:pi} {w:EO} {K:ck} {mg:Str→Option d_} {base:Fg} {CX:CXT} {j k:Nat} {f:k_} {fd:F3} {ps:List Str} {sp:Sp} (F:FnOk P w K mg base CX j f fd ps sp) (h:j≤k) :
 FnOk P w K mg base CX k f fd ps sp:=⟨F.len,fun A outer s H args us vs Q E hr=>F.run A outer s H args us vs Q E (hr.mono h)⟩
theorem FnOk.imp {P:pi} {w:EO} {K:ck} {mg:Str→Option d_} {base:Fg} {CX:CXT} {k:Nat} {f:k_} {fd:F3} {ps:List Str} {sp sp':Sp} (F:FnOk P w K mg base CX k f fd ps sp)
 (h:∀ vs H Q E,sp' vs H Q E→sp vs H Q E):FnOk P w K mg base CX k f fd ps sp' :=
 ⟨fun vs H Q E q=>F.len vs H Q E (h _ _ _ _ q),fun A outer s H args us vs Q E hr he hb hv hs=>F.run A outer s H args us vs Q E hr he hb hv (h _ _ _ _ hs)⟩
theorem Env0.in1 {P:pi} {w:EO} {K:ck} {mg:Str→Option d_} {base:Fg} {A:EQ} {outer:List Env} {s:e_} {H:Hp} (e:Env0 P w K mg base A outer s H) :
 Env0 P w K mg base A.in1 outer s H:=⟨e.frames,e.mod,e.bs,e.bsz,e.funs,e.frf,e.hok,e.bare⟩
section
variable {X:Cx} {f':List (k_×Obj)} {σ:St} {H:Hp} {s s':e_}
theorem Inv.env0 (I:Inv X f' σ H s):Env0 X.prog X.w X.K X.mg X.base X.A X.stack s H :=
 ⟨I.ok.frames,I.ok.mod,I.bs,EW I.ok.bsz I.sz,I.stack,I.stkFree,I.hok,I.bare⟩
theorem Inv.after {Q:VK} {u:d_} (I:Inv X f' σ H s) (h:CE X.stack X.prog X.w H s Q u s'):EP X f' σ Q u s':=by
 obtain ⟨v,H',os,bare,un,hok,r,q⟩:=h;obtain ⟨hh,g,d,t,os'⟩:=s';obtain rfl:os'=s.os:=os;exact ⟨v,H',I.call (h':=hh) (g':=g) (d':=d) (t':=t) (ch:=[]) un hok bare (fun b z=>absurd z (by simp)),r,q⟩
end
def BO (sp:Sp) (dvs:List V) (E:XK) (t:TA):TE:=fun σ H Q=>t σ H fun vs H1=>sp (vs ++ dvs) H1 Q E
def Binds (K:ck) (fd:F3) (ps:List Str) (ds:List d_):Prop :=
 ∀ (s:e_) (us:List d_),K.In s.heap→(us ++ ds).length=ps.length→KO s fd ⟨us,[]⟩ (ps.zip (us ++ ds))
theorem Binds.all {K:ck} {fd:F3} {ps:List Str} (h:∀ us:List d_,us.length=ps.length→bindArgs fd ⟨us,[]⟩=pure (ps.zip us)):Binds K fd ps []:=fun s us _ hl=>by
 rw [HF] at hl ⊢;exact .of_eq (h us hl)
def jC (CX:CXT) (X:Cx) (E:XK):Prop:=∀ (f':List (k_×Obj)) (σ:St) (H:Hp) (s:e_) (e:d_) (s':e_),Inv X f' σ H s→CX X.stack H s E e s'→X.xe e s'
section
variable {X:Cx} {CX:CXT} {k:Nat} {f C:k_} {fd:F3} {ps:List Str} {sp:Sp} {dvs:List V} {ds:List d_} {E:XK} {x m:Str} {p pos apos:Pos} {e o:D_} {es:List D_} {ta:TE} {t:TA}
theorem xT {f':List (k_×Obj)} {σ:St} {H:Hp} {s:e_} {Q:VK} {us:List d_} {vs:List V} (F:FnOk X.prog X.w X.K X.mg X.base CX k f fd ps sp) (hr:Room k X.A) (hb:Binds X.K fd ps ds) (hd:Vals dvs ds) (hx:jC CX X E)
 (I:Inv X f' σ H s) (r:Vals vs us) (h:sp (vs ++ dvs) H Q E):C_ (A_ X.prog X.w) X.A (call (.ref f) us) (EP X f' σ Q) X.xe s:=by
 have r2:Vals (vs ++ dvs) (us ++ ds):=r.append hd;have hl:(us ++ ds).length=ps.length:=by rw [← r2.length]; exact F.len _ _ _ _ h
 refine K7 (IM (F.run X.A X.stack s H ⟨us,[]⟩ (us ++ ds) (vs ++ dvs) Q E hr I.env0 (hb s us I.kIn hl) r2 h) fun r s' hq=>?_);cases r with
 | error e=>exact hx f' σ H s e s' I hq
 | ok fl =>
  cases fl with
  | ret u=>exact I.after hq
  | next=>exact FJ hq
  | brk=>exact FJ hq
  | cont=>exact FJ hq
theorem kH (F:FnOk X.prog X.w X.K X.mg X.base CX k f fd ps sp) (hr:Room k X.A) (hg:Gl X x) (hm:X.mg x=some (.ref f)) (hk:Gx X.K (.ref f)=b_) (hb:Binds X.K fd ps ds) (hd:Vals dvs ds) (hx:jC CX X E)
 (ha:PA X (e :: es) t) (hdb:(x == ("__debug__":Str))=c_:=by decide) (he:j_ (e :: es) X.env=(c_,eval e X.env) :: j_ es X.env:=by rfl) (hpl:(FV pos (j_ es X.env)).any (·.1)=c_:=by rfl) :
 PE X (.Call (.Name x p) (e :: es) [] pos) (BO sp dvs E t):=by
 intro f' s σ H Q I h;refine G5 (iR I hg hm ?_ hdb);refine PySem.W.callWith_K (h₀:=X.base) I.ok.mod.kin hk (thn (ha pos f' s σ H _ I h) fun us s1 ⟨vs,H1,I1,r,q⟩=>⟨I1.kIn,?_⟩) he hpl;exact xT F hr hb hd hx I1 r q
end
section
variable {X:Cx} {CX:CXT} {k:Nat} {f C:k_} {fd:F3} {ps ks:List Str} {sp:Sp} {E:XK} {x m:Str} {p pos apos kpos:Pos} {e o:D_} {es:List D_} {kws:List Hz} {te ta:TE} {t tk:TA} {nm:Option Str}
variable {g:List d_→List d_→List d_} {gV:List V→List V→List V}
end
structure eU (N P:List Str) (sc:GB):Prop where
 kind:sc.kind=.function
 co:sc.isCoroutine=c_
 gen:sc.isGenerator=c_
 nd:N.Nodup
 pre:N.take P.length=P
 par:∀ x∈P,sc.names.lookup x=some .local∨sc.names.lookup x=some .cell
 nofree:∀ y∈sc.names,y.2≠.free
theorem jD {kindOf:Str→Option GW} {x:Str}:∀ {binds:List (Str×d_)} {m:Str→Option d_},(∀ v,(x,v) ∉ binds)→Mw kindOf binds m x=m x
 | [],_,_=>rfl
 | (n,v) :: r,m,h=>by
  unfold Mw;rw [jD fun w hw=>h w (f_ _ hw)];split
  · have:x≠n:=by rintro rfl; exact h v g_
    simp [this]
  · rfl
theorem jE {kindOf:Str→Option GW} {x:Str}:∀ {binds:List (Str×d_)} {m:Str→Option d_},(∀ v,(x,v) ∉ binds)→Mx kindOf binds m x=m x
 | [],_,_=>rfl
 | (n,v) :: r,m,h=>by
  unfold Mx;rw [jE fun w hw=>h w (f_ _ hw)];split
  · rfl
  · have:x≠n:=by rintro rfl; exact h v g_
    simp [this]
theorem jF {kindOf:Str→Option GW} {x:Str} {v:d_}:∀ {P:List Str} {vs:List d_} {i:Nat} {m:Str→Option d_},P.Nodup→P[i]?=some x→vs[i]?=some v→kindOf x=some .local →
 Mw kindOf (P.zip vs) m x=some v
 | [],_,_,_,_,h,_,_=>by simp at h
 | _ :: _,[],_,_,_,_,h,_=>by simp at h
 | p :: P,w :: vs,0,m,nd,h1,h2,hk=>by
  simp at h1 h2; subst h1; subst h2;show Mw kindOf ((p,w) :: P.zip vs) m p=_;unfold Mw;rw [jD fun v hv=>(Hc.mp nd).1 (Kh hv).1,if_pos hk];simp
 | p :: P,w :: vs,i + 1,m,nd,h1,h2,hk=>by
  show Mw kindOf ((p,w) :: P.zip vs) m x=_;unfold Mw;exact jF (i:=i) (Hc.mp nd).2 (by simpa using h1) (by simpa using h2) hk
theorem jG {kindOf:Str→Option GW} {x:Str} {v:d_}:∀ {P:List Str} {vs:List d_} {i:Nat} {m:Str→Option d_},P.Nodup→P[i]?=some x→vs[i]?=some v→kindOf x≠some .local →
 Mx kindOf (P.zip vs) m x=some v
 | [],_,_,_,_,h,_,_=>by simp at h
 | _ :: _,[],_,_,_,_,h,_=>by simp at h
 | p :: P,w :: vs,0,m,nd,h1,h2,hk=>by
  simp at h1 h2; subst h1; subst h2;show Mx kindOf ((p,w) :: P.zip vs) m p=_;unfold Mx;rw [jE fun v hv=>(Hc.mp nd).1 (Kh hv).1,if_neg hk];simp
 | p :: P,w :: vs,i + 1,m,nd,h1,h2,hk=>by
  show Mx kindOf ((p,w) :: P.zip vs) m x=_;unfold Mx;exact jG (i:=i) (Hc.mp nd).2 (by simpa using h1) (by simpa using h2) hk
def start (N:List Str) (vs:List V):St:=vs.map some ++ E6 (N.length - vs.length) none
def nv (CX:CXT) (P:pi) (w:EO) (K:ck) (mg:Str→Option d_) (base:Fg) (N:List Str) (qual:Str) (scope:GB) (f:k_) (cd:d_) (A:EQ) (outer:List Env) (s:e_) (H:Hp) (E:XK):Cx where
 prog:=P
 w:=w
 K:=K
 mg:=mg
 base:=base
 A:=A.deeper (Ir qual scope s.heap.objs.size f cd)
 N:=N
 s₀:=s
 H₀:=H
 env:=Ir qual scope s.heap.objs.size f cd
 outer:=outer
 stack:=Ir qual scope s.heap.objs.size f cd :: outer
 ex:=[]
 calm:=b_
 fn:=fun _=>b_
 pn:=[]
 xe:=fun e s'=>C_ (A_ P w) (A.deeper (Ir qual scope s.heap.objs.size f cd)) (leaving (Ir qual scope s.heap.objs.size f cd) e) (fun _ s''=>CX outer H s E e s'') (fun e' s''=>CX outer H s E e' s'') s'
theorem lG {sc:GB} {n:Nat} {x:Str} (h:sc.names.lookup x=some .cell):∃ c,(Fw n sc.names []).lookup x=some c:=by
 have q:=JW sc.names n [] (.inl h);exact Gv.mp q
theorem n9 {CX:CXT} {P:pi} {w:EO} {K:ck} {mg:Str→Option d_} {base:Fg} {N ps:List Str} {qual:Str} {scope:GB} {f:k_} {cd:d_} {A:EQ} {outer:List Env} {s s1:e_} {H:Hp} {E:XK} {us:List d_} {vs:List V}
 (S:eU N ps scope) (hd:A.handled=none) (e0:Env0 P w K mg base A outer s H) (hl:vs.length=ps.length) (r:Vals vs us)
 (x:InCallC s s.heap.objs.size (Mw (Ir qual scope s.heap.objs.size f cd).kindOf (ps.zip us) fun _=>none) (Fw (s.heap.objs.size + 1) scope.names []) (Mx (Ir qual scope s.heap.objs.size f cd).kindOf (ps.zip us) fun _=>none) s1) :
 Inv (nv CX P w K mg base N qual scope f cd A outer s H E) [] (start N vs) H s1:=by
 have hpl:ps.length≤N.length:=by have:=congrArg HQ S.pre; rw [GZ] at this; omega
 obtain ⟨h1,tk,rfl,hk⟩:=x.done;have noA:∀ b:k_,b ∉ (nv CX P w K mg base N qual scope f cd A outer s H E).ex:=fun b z=>absurd (show b∈([]:List k_) from z) (by simp);refine ⟨⟨e0.mod,S.kind,rfl,rfl,p_ _,fun y z c h1 h2=>?_,fun y hy=>?_,fun y c _ h=>?_,fun _=>hd,Around.frames_deeper e0.frames,.inr ⟨rfl,rfl⟩,fun b z=>absurd z (noA b),e0.bs,e0.bsz,fun b _ _=>noA b,fun b z=>absurd z (noA b),e0.funs,e0.frf⟩,
  rfl,e0.bare,Un.kept hk,⟨_,x.toInCall.ns,fun i y v h1 h2 h3=>?_⟩,fun y c h=>⟨_,x.cell y c h⟩,e0.hok.fresh (p_ _),fun y c h=>?_,fun p hp=>absurd (show p∈([]:List (k_×Obj)) from hp) (by simp),e0.hok.kept hk,?_⟩
 · exact name_of_addr x.apart (GT h1) (GT h2)
 · have hy:scope.names.lookup y=some .cell∨scope.names.lookup y=some .free:=hy;rcases hy with hy | hy
   · exact lG hy
   · exact absurd rfl (S.nofree _ (GT hy))
 · exact Ia (x.above y c (GT h))
 · have hi:i < vs.length:=by
    unfold start at h2;by_cases hi:i < vs.length
    · exact hi
    · rw [FN (by simpa using hi)] at h2;rw [G4] at h2;split at h2 <;> cases h2
   have ha:vs[i]?=some v:=by
    unfold start at h2;rw [FQ (by simpa using hi),Fh] at h2;cases e:vs[i]? with
    | none=>rw [e] at h2; cases h2
    | some a=>rw [e] at h2; cases h2; rfl
   obtain ⟨u,hu,rv⟩:=r.get ha;have hp:ps[i]?=some y:=by
    rw [← S.pre,JB (by omega)]; exact h1
   have ndP:ps.Nodup:=by rw [← S.pre]; exact S.nd.sublist (LP _ _)
   refine ⟨u,rv,?_⟩;rcases S.par y (Gf hp) with k | k
   · exact .inl ⟨k,jF ndP hp hu k⟩
   · obtain ⟨c,e⟩:=lG (n:=s.heap.objs.size + 1) k;refine .inr ⟨.inl k,c,e,?_⟩;have q:=x.cell y c e;rw [jG ndP hp hu (by show scope.names.lookup y≠_; rw [k]; decide)] at q;exact q
 · exact e0.hok.fresh (Ia (x.above y c (GT h)))
 · unfold start;show _=N.length;rw [z_,s_,GI];omega
theorem xU {CX:CXT} {P:pi} {w:EO} {K:ck} {mg:Str→Option d_} {base:Fg} {k:Nat} {f:k_} {name qual:Str} {params:Arguments} {body:List F_} {scope:GB} {dV kV doc pm cdv ct oc:d_} {an od:Option k_}
 {osl:Array (Option d_)} {N ps:List Str} {sp:Sp} (lk:K.lookup f=some ⟨oc,od,.func (G7 name qual params body scope dV kV doc pm an cdv ct),osl⟩) (hcd:I_ K cdv qual=b_) (S:eU N ps scope)
 (len:∀ vs H Q E,sp vs H Q E→vs.length=ps.length)
 (hbody:∀ (A:EQ) (outer:List Env) (s:e_) (H:Hp) (vs:List V) (Q:VK) (E:XK),Room k (A.deeper (Ir qual scope s.heap.objs.size f cdv))→sp vs H Q E →
   ∃ t,PSs (nv CX P w K mg base N qual scope f cdv A outer s H E) body t∧t { nx:=fun _ H'=>Q .non H',rt:=Q } (start N vs) H) :
 FnOk P w K mg base CX (k + 1) f (G7 name qual params body scope dV kV doc pm an cdv ct) ps sp:=by
 refine ⟨len,fun A outer s H args us vs Q E hr e0 hb r hsp=>?_⟩;have hl:=len _ _ _ _ hsp;have KX:K.In s.heap:=e0.mod.kin.keeps fun b o e=>(e0.bs b o e).1;have lim:s.heap.NoLimit:=e0.mod.nolimit.keeps fun b o e=>(e0.bs b o e).1;have hkind:∀ y∈ps.zip us,scope.names.lookup y.1=some .local∨(scope.names.lookup y.1=some .cell∧((Fw (s.heap.objs.size + 1) scope.names []).lookup y.1).isSome=b_):=fun ⟨n,v⟩ hy=>by
  rcases S.par n (Kh hy).1 with q | q
  · exact .inl q
  · exact .inr ⟨q,JW _ _ _ (.inl q)⟩
 refine codeAny_call_function hr.depth (KX _ _ lk) rfl S.co S.gen rfl (PySem.W.codeRec_of KX hcd) (hb _ _ _ _ ?_);refine wpAny_newFunctionEnv_cells S.kind hkind fun env he s1 x=>?_;subst he;refine ⟨lim.keeps x.toInCall.keep,codeAny_func ?_⟩;obtain ⟨t,ht,hq⟩:=hbody A outer s H vs Q E (hr.deeper _) hsp;have I:Inv (nv CX P w K mg base N qual scope f cdv A outer s H E) [] (start N vs) H s1:=n9 S hr.hd e0 hl r x;refine FR (ht [] s1 (start N vs) H _ I hq) (fun fl s' hs=>?_) fun e s' hs=>hs;have fin:∀ {σ':St} {H':Hp} {v:V} {u:d_},Inv (nv CX P w K mg base N qual scope f cdv A outer s H E) [] σ' H' s'→RelV v u→Q v H'→CE outer P w H s Q u s' :=
  fun {σ' H' v u} J rv q=>⟨v,H',J.os,J.bare,J.base,J.hok,rv,q⟩
 cases fl with
 | ret u =>
  obtain ⟨v,σ',H',J,rv,q⟩:=hs;exact fin J rv q
 | next =>
  obtain ⟨σ',H',J,q⟩:=hs;exact fin (v:=V.non) (u:=FF) J rfl q
 | brk =>
  obtain ⟨_,_,_,q⟩:=hs;exact FJ q
 | cont =>
  obtain ⟨_,_,_,q⟩:=hs;exact FJ q
section
variable {X:Cx} {x:Str} {p pos:Pos} {e:D_} {es:List D_} {t:TA} {id T:String} {r:List V→Hp→VK→Prop}
def tCB (r:List V→Hp→VK→Prop) (t:TA):TE:=fun σ H Q=>t σ H fun vs H1=>r vs H1 Q
theorem fw (hc:CallR X (.builtin id) r) (hg:Gl X x) (hm:X.mg x=none) (hv:F9 x=some (.builtin id)) (ha:PA X (e :: es) t) (hn:x≠"__name__":=by decide) (hdb:(x == ("__debug__":Str))=c_:=by decide)
 (he:j_ (e :: es) X.env=(c_,eval e X.env) :: j_ es X.env:=by rfl) (hpl:(FV pos (j_ es X.env)).any (·.1)=c_:=by rfl):PE X (.Call (.Name x p) (e :: es) [] pos) (tCB r t):=by
 intro f' s σ H Q I h;refine G5 (gO I hg hm hv ?_ hn hdb);exact Iu (thn (ha pos f' s σ H _ I h) fun us s1 ⟨vs,H1,I1,r1,q1⟩=>hc f' s1 σ H1 vs us Q I1 r1 q1) he hpl
theorem fz (hc:CallR X (.type T) r) (hg:Gl X x) (hm:X.mg x=none) (hv:F9 x=some (.type T)) (ha:PA X (e :: es) t) (hn:x≠"__name__":=by decide) (hdb:(x == ("__debug__":Str))=c_:=by decide)
 (he:j_ (e :: es) X.env=(c_,eval e X.env) :: j_ es X.env:=by rfl) (hpl:(FV pos (j_ es X.env)).any (·.1)=c_:=by rfl):PE X (.Call (.Name x p) (e :: es) [] pos) (tCB r t):=by
 intro f' s σ H Q I h;refine G5 (gO I hg hm hv ?_ hn hdb);exact GG (thn (ha pos f' s σ H _ I h) fun us s1 ⟨vs,H1,I1,r1,q1⟩=>hc f' s1 σ H1 vs us Q I1 r1 q1) he hpl
end
end L2
namespace HT
open PySem PyProof.Rows
section
open PySem.SeqAt
open PySem.AutoSeq1 (wpAny_loadPart')
open PySem.MeetsSeq PySem.MeetsSeq2 PySem.MeetsSeq3
end
section
variable {prog:pi} {w:EO} {A:EQ} {E:d_→e_→Prop} {s:e_}
theorem cat_tup {t b:k_} {vs ws:List d_} {Q:d_→e_→Prop} (ht:MF s.heap t vs.toArray) (hb:MF s.heap b ws.toArray) (hv:vs≠[])
 (h1:ws=[]→Q (.ref t) s) (h2:ws≠[]→Q (.ref s.heap.objs.size) { s with heap:=s.heap.push { cls:=.type "tuple",data:=.seq (vs ++ ws).toArray } })
 (hsz:vs.length + ws.length≤sizeLine):C_ (A_ prog w) A (GE .Add (.ref t) (.ref b)) Q E s:=by
 obtain ⟨⟨cls,dd,data,sl⟩,ho,hc,n,hd⟩:=id ht;obtain ⟨⟨cls2,dd2,data2,sl2⟩,ho2,hc2,n2,hd2⟩:=id hb;simp only at hc hd hc2 hd2;subst hc hd hc2 hd2;have e:vs.toArray ++ ws.toArray=(vs ++ ws).toArray:=by simp
 by_cases hw:ws=[]
 · exact Lu ⟨_,ho,rfl⟩ ⟨_,ho2,rfl⟩ JH K0 H4 HP (Hx _ _)
    (tuple_addW1 t b vs.toArray ws.toArray n n2 dd dd2 sl sl2 (by simpa using hv) (by simp [hw])) ⟨ho,ho2,h1 hw⟩
 · refine Lu ⟨_,ho,rfl⟩ ⟨_,ho2,rfl⟩ JH K0 H4 HP (Hx _ _)
    (tuple_addW2 t b vs.toArray ws.toArray n n2 dd dd2 sl sl2 (by simpa using hv) (by simpa using hw) (by rw [v_,v_]; exact hsz)) ⟨ho,ho2,?_⟩
   rw [e];exact h2 hw
def sIx (n d:Nat):Option Int→Nat
 | none=>d
 | some v=>if v < 0 then (v + (n:Int)).toNat else min v.toNat n
theorem xV (n d:Nat) (hd:d≤n) (o:Option Int):sIx n d o≤n:=by
 cases o with
 | none=>exact hd
 | some v =>
  show (if v < 0 then (v + (n:Int)).toNat else min v.toNat n)≤n;by_cases hv:v < 0
  · rw [if_pos hv]; omega
  · rw [if_neg hv]; exact JN _ _
theorem oa (v:Int) (n d:Nat):(if v < 0 then max (v + (n:Int)) 0 else min v (n:Int))=((sIx n d (some v):Nat):Int):=by
 show (if v < 0 then max (v + (n:Int)) 0 else min v (n:Int))=(((if v < 0 then (v + (n:Int)).toNat else min v.toNat n):Nat):Int);by_cases hv:v < 0
 · simp only [if_pos hv]; omega
 · simp only [if_neg hv]; omega
theorem mL (lo hi:Option Int) (n:Nat):Hv lo hi 1 (n:Int)=(((sIx n 0 lo:Nat):Int),((sIx n n hi:Nat):Int)):=by
 have h1:¬ ((1:Int) < 0):=by omega
 unfold Hv;simp only [h1,if_false];refine Prod.ext ?_ ?_
 · cases lo with
   | none=>rfl
   | some v=>exact oa v n 0
 · cases hi with
   | none=>rfl
   | some v=>exact oa v n n
theorem mM (i j:Nat):GJ (i:Int) (j:Int) 1=j - i:=by
 unfold GJ;have h1:(1:Int) > 0:=by omega
 simp only [h1,if_true,LU];split <;> omega
theorem iB {v:d_} {o:Option Int} {Q:Option Int→e_→Prop} (p:J0 v o) (h:Q o s):C_ (A_ prog w) A (Builtin.Slice.slicePartIndex v) Q E s:=by
 cases p with
 | none=>exact slicePart_none h
 | int i t=>exact slicePart_int h
theorem sliceApplied_gen {sl:k_} {vl vu:d_} {lo hi:Option Int} {n:Nat} {Q:Int×Int×Nat→e_→Prop} (hs:s.heap.IsSliceOf sl vl vu .none) (pl:J0 vl lo) (pu:J0 vu hi)
 (h:Q (((sIx n 0 lo:Nat):Int),1,sIx n n hi - sIx n 0 lo) s):C_ (A_ prog w) A (Ji (.ref sl) (pure (n:Int))) Q E s:=by
 obtain ⟨os,hos,hcs,hds⟩:=id hs;unfold Ji Builtin.Slice.sliceFields;refine ge (ge (Ko hos hds (x:=vl) rfl (ge (Ko hos hds (x:=vu) rfl (ge (Ko hos hds (x:=.none) rfl (m_ ?_)))))));refine ge (slicePart_none ?_);show C_ _ _ (if ((1:Int) == 0)=b_ then _ else _) _ _ s;rw [if_neg (by decide)];refine ge (iB pl (ge (iB pu (ge (m_ ?_)))));show C_ _ _ (match Hv lo hi 1 (n:Int) with | (lo,hi)=>pure (lo,(1:Int),GJ lo hi 1)) _ _ s
 rw [mL lo hi n];show C_ _ _ (pure (((sIx n 0 lo:Nat):Int),(1:Int),GJ ((sIx n 0 lo:Nat):Int) ((sIx n n hi:Nat):Int) 1)) _ _ s;rw [mM];exact m_ h
theorem qW (xs:Array d_) (i k:Nat):((l_ k).filterMap fun (m:Nat)=>xs[((i:Int) + (m:Int) * 1).toNat]?).toArray=((xs.toList.drop i).take k).toArray:=by
 have e:(fun (m:Nat)=>xs[((i:Int) + (m:Int) * 1).toNat]?)=fun m=>xs[i + m]?:=by
  funext m;have:((i:Int) + (m:Int) * 1).toNat=i + m:=by omega
  rw [this]
 rw [e];have:=pick_run xs i k;rw [GH] at this;have e2:((fun x=>xs[x]?) ∘ fun x=>i + x)=fun m=>xs[i + m]?:=rfl;rw [e2] at this;rw [this]
theorem getItem_tuple_cut {t sl:k_} {items:Array d_} {vl vu:d_} {lo hi:Option Int} {Q:d_→e_→Prop} (ht:MF s.heap t items) (hs:s.heap.IsSliceOf sl vl vu .none) (pl:J0 vl lo) (pu:J0 vu hi)
 (hw:¬ (sIx items.size 0 lo=0∧sIx items.size items.size hi=items.size))
 (h:Q (.ref s.heap.objs.size) { s with heap:=s.heap.push { cls:=.type "tuple",data:=.seq ((items.toList.drop (sIx items.size 0 lo)).take (sIx items.size items.size hi - sIx items.size 0 lo)).toArray } })
 (hsz:items.size≤sizeLine):C_ (A_ prog w) A (JU (.ref t) (.ref sl)) Q E s:=by
 have htake:sizeOk (.seq ((items.toList.drop (sIx items.size 0 lo)).take (sIx items.size items.size hi - sIx items.size 0 lo)).toArray):=by
  show ((items.toList.drop (sIx items.size 0 lo)).take (sIx items.size items.size hi - sIx items.size 0 lo)).toArray.size≤sizeLine;rw [v_,GZ,Gs,ES];omega
 have hj:sIx items.size items.size hi≤items.size:=xV _ _ (p_ _) hi;obtain ⟨os,hos,hcs,hds⟩:=id hs;have hTs:s.TypeIs (.ref sl) "slice":=⟨os,hos,hcs⟩;unfold JU
 try with_reducible refine FX ?_
 first | refine ge (m_ ?_) | skip
 refine ge (wpAny_sequenceKey ht.typeIs (by decide) ?_);refine ge (JG (name:=a_ "__getitem__") ht.typeIs FL
  (wpAny_call_entry FL ht.typeIs entry_tuple_getitem ?_ (args_tuple_getitem _ _)))
 show C_ _ _ (Jh (.ref t) >>= _) _ _ s;refine ge (tupleItemsOf_ ht ?_);refine ge (JR hTs ?_);rw [if_pos (by decide)];refine ge (sliceApplied_gen hs pl pu ?_);have hno:¬ ((((sIx items.size 0 lo:Nat):Int) == 0 && (1:Int) == 1 && (sIx items.size items.size hi - sIx items.size 0 lo) == items.size)=b_):=by
  intro q;rw [i_,i_] at q;have q1:((sIx items.size 0 lo:Nat):Int)=0:=IX q.1.1;have q2:sIx items.size items.size hi - sIx items.size 0 lo=items.size:=IX q.2;exact hw ⟨by omega,by omega⟩
 show C_ _ _ (if (((sIx items.size 0 lo:Nat):Int) == 0 && (1:Int) == 1 && (sIx items.size items.size hi - sIx items.size 0 lo) == items.size)=b_ then _ else _) _ _ s;rw [if_neg hno,qW]
 first
  | exact ge (m:=GS _) (Hk (m_ ⟨_,rfl,m_ h⟩) htake)
  | exact ge (m:=GS _) (Hk (ge (m_ (m_ ⟨_,rfl,m_ h⟩))) htake)
  | exact ge (ge (m:=GS _) (Hk (m_ (m_ ⟨_,rfl,m_ h⟩)) htake))
  | exact ge (ge (m:=GS _) (Hk (m_ ⟨_,rfl,m_ h⟩) htake))
end
end HT
namespace L2
open PySem PySem.Spec PyProof.Rows
abbrev TO:=St→Hp→(Option Int→Hp→Prop)→Prop
def PO (X:Cx) (e:Option D_) (t:TO):Prop :=
 ∀ (f':List (k_×Obj)) (s:e_) (σ:St) (H:Hp) (Q:Option Int→Hp→Prop),Inv X f' σ H s→t σ H Q →
  C_ (A_ X.prog X.w) X.A (evalPart e X.env) (fun u s'=>∃ o H',Inv X f' σ H' s'∧J0 u o∧Q o H') X.xe s
def uI:TO:=fun _ H Q=>Q none H
def BP (t:TE):TO:=fun σ H Q=>t σ H fun x H1=>∃ i,x=.int i∧Q (some i) H1
section
variable {X:Cx} {e:D_} {te:TE} {lo hi:Option D_} {tl th:TO} {pos p2:Pos}
theorem uJ:PO X none uI:=by
 intro f' s σ H Q I h;rw [K1];exact m_ ⟨none,H,I,.none,h⟩
theorem uK (h:PE X e te):PO X (some e) (BP te):=by
 intro f' s σ H Q I hw;rw [evalPart_some];refine thn (h f' s σ H _ I hw) fun u s1 ⟨x,H1,I1,r1,q1⟩=>?_;obtain ⟨i,rfl,q⟩:=q1;obtain ⟨t,rfl⟩:=r1;exact ⟨some i,H1,I1,.int i t,q⟩
def SlR (X:Cx) (r:V→Option Int→Option Int→Hp→VK→Prop):Prop :=
 ∀ (f':List (k_×Obj)) (s:e_) (σ:St) (H:Hp) (x:V) (v vl vu:d_) (lo hi:Option Int) (sl:k_) (Q:VK),Inv X f' σ H s→RelV x v→s.heap.IsSliceOf sl vl vu .none→J0 vl lo→J0 vu hi→r x lo hi H Q →
  ∃ T id,typeLookup (.type T) "__getitem__"=pure (some (.builtin id))∧s.TypeIs v T∧C_ (A_ X.prog X.w) X.A (JU v (.ref sl)) (EP X f' σ Q) X.xe s
theorem SlR.or {r r':V→Option Int→Option Int→Hp→VK→Prop} (h:SlR X r) (h':SlR X r'):SlR X (fun x lo hi H Q=>r x lo hi H Q∨r' x lo hi H Q):=by
 intro f' s σ H x v vl vu lo hi sl Q I rx hs pl pu q;rcases q with q | q
 · exact h f' s σ H x v vl vu lo hi sl Q I rx hs pl pu q
 · exact h' f' s σ H x v vl vu lo hi sl Q I rx hs pl pu q
def tSl (r:V→Option Int→Option Int→Hp→VK→Prop) (te:TE) (tl th:TO):TE:=fun σ H Q=>te σ H fun x H1=>tl σ H1 fun l H2=>th σ H2 fun u H3=>r x l u H3 Q
theorem lH {r:V→Option Int→Option Int→Hp→VK→Prop} (hr:SlR X r) (he:PE X e te) (hl:PO X lo tl) (hu:PO X hi th):PE X (.Subscript e (.Slice lo hi none p2) pos) (tSl r te tl th):=by
 intro f' s σ H Q I h;refine Subscript_ (thn (he f' s σ H _ I h) fun v s1 ⟨x,H1,I1,r1,q1⟩=>?_);refine wpAny_Slice (thn (hl f' s1 σ H1 _ I1 q1) fun vl s2 ⟨l,H2,I2,pl,q2⟩=>thn (hu f' s2 σ H2 _ I2 q2) fun vu s3 ⟨u,H3,I3,pu,q3⟩=>?_);rw [K1];refine m_ ?_;have I4:Inv X f' σ H3 { s3 with heap:=s3.heap.push { cls:=.type "slice",data:=.fields #[vl,vu,.none] } }:=I3.kept (t':=s3.toks) fun b ob q=>on _ q;obtain ⟨T,id,hT,ht,hg⟩:=hr f' { s3 with heap:=s3.heap.push { cls:=.type "slice",data:=.fields #[vl,vu,.none] } } σ H3 x v vl vu l u s3.heap.objs.size Q I4 r1 (Lf ..) pl pu q3;show C_ (A_ X.prog X.w) X.A (K5 e (.Slice lo hi none p2) v (.ref s3.heap.objs.size)) (EP X f' σ Q) X.xe { s3 with heap:=s3.heap.push { cls:=.type "slice",data:=.fields #[vl,vu,.none] } };exact tail_any (ops:=[.ref s3.heap.objs.size,v]) ht hT hg (by with_unfolding_all rfl)
def qX (xs:List V) (lo hi:Option Int):List V:=(xs.drop (HT.sIx xs.length 0 lo)).take (HT.sIx xs.length xs.length hi - HT.sIx xs.length 0 lo)
theorem gR (xs:List V) (lo hi:Option Int):(qX xs lo hi).length≤xs.length:=by
 unfold qX;rw [GZ,Gs];omega
def El (K:ck):V→Option Int→Option Int→Hp→VK→Prop:=fun x lo hi H Q=>∃ a xs,x=.ref a∧SqT K H a xs ∧
 ¬ (HT.sIx xs.length 0 lo=0∧HT.sIx xs.length xs.length hi=xs.length)∧∀ p,H p=none→Q (.ref p) (upd H p (.tup (qX xs lo hi)))
theorem sl_tup:SlR X (El X.K):=by
 intro f' s σ H x v vl vu lo hi sl Q I rx hs pl pu h;obtain ⟨a,xs,rfl,hx,hw,q⟩:=h;cases rx;obtain ⟨its,r,ht,hz⟩:=I.tuple hx;have hlen:its.toArray.size=xs.length:=by rw [v_]; exact r.length.symm
 refine ⟨"tuple",_,FL.lookup,ht.typeIs,?_⟩;refine HT.getItem_tuple_cut ht hs pl pu (by rw [hlen]; exact hw) ?_ (by rw [hlen]; exact hz);rw [hlen];refine ⟨.ref s.heap.objs.size,_,I.laid (t':=s.toks) (o:=.tup (qX xs lo hi)) (fun b ob q=>on _ q) (p_ _) ?_,rfl,q _ (I.hok.fresh (p_ _))⟩;exact ⟨EW (gR xs lo hi) hz,_,(r.drop (HT.sIx xs.length 0 lo)).take (HT.sIx xs.length xs.length hi - HT.sIx xs.length 0 lo),MP _ _⟩
def xW (K:ck):R2:=fun x y H Q=>∃ a b xs ys,x=.ref a∧y=.ref b∧SqT K H a xs∧SqT K H b ys∧xs≠[]∧xs.length + ys.length≤sizeLine ∧
 (ys=[]→Q (.ref a) H)∧(ys≠[]→∀ p,H p=none→Q (.ref p) (upd H p (.tup (xs ++ ys))))
theorem Vals.nil_iff {xs:List V} {us:List d_} (r:Vals xs us):us=[]↔xs=[]:=by
 cases r with
 | nil=>simp
 | cons _ _=>simp
theorem op_catT:OpR X (GE .Add) (xW X.K):=by
 intro f' s σ H x y v u Q I rx ry h;obtain ⟨a,b,xs,ys,rfl,rfl,ha,hb,hx,hz,q1,q2⟩:=h;cases rx;cases ry;obtain ⟨its,r1,p1,_⟩:=I.tuple ha;obtain ⟨its2,r2,p2,_⟩:=I.tuple hb;refine HT.cat_tup p1 p2 (fun z=>hx (r1.nil_iff.mp z)) (fun z=>⟨.ref a,H,I,rfl,q1 (r2.nil_iff.mp z)⟩) (fun z=>?_) (by rw [← r1.length,← r2.length]; exact hz);refine ⟨.ref s.heap.objs.size,_,I.laid (t':=s.toks) (o:=.tup (xs ++ ys)) (fun b ob q=>on _ q) (p_ _) ?_,rfl,q2 (fun w=>z (r2.nil_iff.mpr w)) _ (I.hok.fresh (p_ _))⟩;exact ⟨by rw [z_]; exact hz,_,r1.append r2,MP _ _⟩
end
def ixN (n:Nat) (i:Int):Option Nat:=if 0≤i then (if i < n then some i.toNat else none) else if -(n:Int)≤i then some (i + n).toNat else none
def atI {α:Type} (xs:List α) (i:Int):Option α:=(ixN xs.length i).bind fun j=>xs[j]?
theorem og {n:Nat} {i:Int} {j:Nat} (h:ixN n i=some j):seqIndex? i n=some j∧j < n∧-(n:Int)≤i∧i < n:=by
 unfold ixN at h;by_cases h0:0≤i
 · rw [if_pos h0] at h;by_cases h1:i < n
   · rw [if_pos h1] at h;have e:i.toNat=j:=Fj h;exact ⟨by rw [Mj h0 h1,e],by omega,by omega,h1⟩
   · rw [if_neg h1] at h; cases h
 · rw [if_neg h0] at h;by_cases h1:-(n:Int)≤i
   · rw [if_pos h1] at h;have e:(i + n).toNat=j:=Fj h;exact ⟨by rw [seqIndex_neg (by omega) h1,e],by omega,h1,by omega⟩
   · rw [if_neg h1] at h; cases h
theorem kJ {α:Type} {xs:List α} {i:Int} {v:α} (h:atI xs i=some v):∃ j,seqIndex? i xs.length=some j∧xs[j]?=some v∧j < xs.length∧-(xs.length:Int)≤i∧i < xs.length:=by
 unfold atI at h;cases e:ixN xs.length i with
 | none=>rw [e] at h; cases h
 | some j =>
  rw [e] at h;obtain ⟨h1,h2,h3,h4⟩:=og e;exact ⟨j,h1,h,h2,h3,h4⟩
def oh (b:D_):Prop:=∀ o i,Mh b c_ o i=operate [o,i] (JU o i)
def IxR (X:Cx) (r:R2):Prop :=
 ∀ (value slice:D_) (f':List (k_×Obj)) (s:e_) (σ:St) (H:Hp) (x y:V) (v u:d_) (Q:VK),Inv X f' σ H s→RelV x v→RelV y u→r x y H Q →
  Mh slice c_ v u=operate [v,u] (JU v u)→C_ (A_ X.prog X.w) X.A (K5 value slice v u) (EP X f' σ Q) X.xe s
def MtR (X:Cx) (id:String) (r:V→List V→Hp→VK→Prop):Prop :=
 ∀ (f':List (k_×Obj)) (s:e_) (σ:St) (H:Hp) (x:V) (xs:List V) (v:d_) (us:List d_) (Q:VK),Inv X f' σ H s→RelV x v→Vals xs us→r x xs H Q →
  C_ (A_ X.prog X.w) X.A (call (.builtin id) (v :: us)) (EP X f' σ Q) X.xe s
section
variable {X:Cx} {a b:D_} {ta tb:TE} {pos:Pos}
theorem IxR.or {r r':R2} (h:IxR X r) (h':IxR X r'):IxR X (fun x y H Q=>r x y H Q∨r' x y H Q):=by
 intro value slice f' s σ H x y v u Q I rx ry q hs;rcases q with q | q
 · exact h value slice f' s σ H x y v u Q I rx ry q hs
 · exact h' value slice f' s σ H x y v u Q I rx ry q hs
theorem MtR.or {id:String} {r r':V→List V→Hp→VK→Prop} (h:MtR X id r) (h':MtR X id r'):MtR X id (fun x xs H Q=>r x xs H Q∨r' x xs H Q):=by
 intro f' s σ H x xs v us Q I rx rs q;rcases q with q | q
 · exact h f' s σ H x xs v us Q I rx rs q
 · exact h' f' s σ H x xs v us Q I rx rs q
theorem BQ {r:R2} (hr:IxR X r) (ha:PE X a ta) (hb:PE X b tb) (hs:oh b):PE X (.Subscript a b pos) (tOp r ta tb):=by
 intro f' s σ H Q I h;exact Subscript_ (BH ha hb I h fun v u s2 x y H2 I2 rx ry q=>hr a b f' s2 σ H2 x y v u Q I2 rx ry q (hs _ _))
def DD (K:ck):R2:=fun x y H Q=>∃ p xs i v,x=.ref p∧y=.int i∧SqL K H p xs∧atI xs i=some v∧Q v H
def DE (K:ck):R2:=fun x y H Q=>∃ p xs i v,x=.ref p∧y=.int i∧SqT K H p xs∧atI xs i=some v∧Q v H
def DF:R2:=fun x y H Q=>∃ z i c,x=.str z∧y=.int i∧z.length≤sizeLine∧atI z.cps.toList i=some c∧Q (.str ⟨#[c]⟩) H
theorem ix_list:IxR X (DD X.K):=by
 intro value slice f' s σ H x y v u Q I rx ry h hs;obtain ⟨p,xs,i,z,rfl,rfl,hq,he,q⟩:=h;cases rx;obtain ⟨t,rfl⟩:=ry;obtain ⟨its,r,pl,hz⟩:=I.list hq;obtain ⟨j,h1,h2,h3,h4,h5⟩:=kJ he;obtain ⟨w,ew,rw'⟩:=r.get h2;have hl:=r.length;have hn:=jA;have fin:EP X f' σ Q w s:=⟨z,H,I,rw',q⟩;by_cases h0:0≤i
 · have hj:i.toNat=j:=by
    rw [Mj h0 h5] at h1;exact Fj h1
   exact item_listR pl.isList h0 (by omega) (by rw [hj]; simpa using ew) fin hs
 · have hj:(i + (its.toArray.size:Int)).toNat=j:=by
    rw [seqIndex_neg (by omega) h4] at h1;rw [v_,← hl];exact Fj h1
   exact J1 (x:=w) pl.isList.typeIs Jp.lookup
    (wpAny_getItem_list_neg (Q:=fun r s'=>r=w∧EP X f' σ Q r s') pl.isList (by omega) (by rw [v_] <;> omega) (by omega) (by rw [hj]; simpa using ew) ⟨rfl,fin⟩) hs
theorem ix_tup:IxR X (DE X.K):=by
 intro value slice f' s σ H x y v u Q I rx ry h hs;obtain ⟨p,xs,i,z,rfl,rfl,hq,he,q⟩:=h;cases rx;obtain ⟨t,rfl⟩:=ry;obtain ⟨its,r,pl,hz⟩:=I.tuple hq;obtain ⟨j,h1,h2,h3,h4,h5⟩:=kJ he;obtain ⟨w,ew,rw'⟩:=r.get h2;have hl:=r.length;have hn:=jA;have fin:EP X f' σ Q w s:=⟨z,H,I,rw',q⟩;exact J1 (x:=w) pl.typeIs slot_tuple_getitem.lookup
  (getItem_tuple (j:=j) (Q:=fun r s'=>r=w∧EP X f' σ Q r s') pl (by omega) (by omega) (by rw [v_,← hl]; exact h1) (by simpa using ew) ⟨rfl,fin⟩) hs
theorem xX:IxR X DF:=by
 intro value slice f' s σ H x y v u Q I rx ry h hs;obtain ⟨z,i,c,rfl,rfl,hz,he,q⟩:=h;obtain ⟨t,rfl⟩:=rx;obtain ⟨t',rfl⟩:=ry;obtain ⟨j,h1,h2,h3,h4,h5⟩:=kJ he;have hl:z.cps.toList.length=z.length:=by simp [Jb]
 rw [hl] at h1 h4 h5;have hn:=jA;exact tail_any (Ip s z t) slot_str_getitem.lookup (getItem_str (c:=c) (by
  have e1:h_ (i < -(2 ^ 63:Int))=c_:=decide_eq_false (by omega);have e2:h_ (i ≥ 2 ^ 63)=c_:=decide_eq_false (by omega);rw [e1,e2,JD]) (by rw [h1]; simpa using h2) ⟨.str ⟨#[c]⟩,H,I.tok _,⟨_,rfl⟩,q⟩) hs
def rIx (K:ck):R2:=fun x y H Q=>DD K x y H Q∨DE K x y H Q∨DF x y H Q
theorem xY:IxR X (rIx X.K):=ix_list.or (ix_tup.or xX)
theorem mO (its:List d_) (n j:Nat) (u:d_):JZ (·.setIfInBounds j u) { cls:=.type "list",data:=.seq its.toArray n }={ cls:=.type "list",data:=.seq (its.set j u).toArray n }:=by
 simp [JZ]
theorem Inv.lst {f':List (k_×Obj)} {σ:St} {H:Hp} {s:e_} {p:k_} {xs:List V} (I:Inv X f' σ H s) (h:H p=some (.lst xs)) :
 ∃ (its:List d_) (n:Nat),Vals xs its∧s.heap.get? p=some { cls:=.type "list",data:=.seq its.toArray n }∧xs.length≤sizeLine:=by
 obtain ⟨z,its,n,r,e⟩:=I.hok p _ h;exact ⟨its,n,r,e,z⟩
theorem Inv.lstUpd {f':List (k_×Obj)} {σ:St} {H:Hp} {s:e_} {p:k_} {xs ys:List V} {its its':List d_} {n n':Nat} {f:Obj→Obj} (I:Inv X f' σ H s) (h:H p=some (.lst xs))
 (ho:s.heap.get? p=some { cls:=.type "list",data:=.seq its.toArray n }) (hf:f { cls:=.type "list",data:=.seq its.toArray n }={ cls:=.type "list",data:=.seq its'.toArray n' }) (r:Vals ys its') (hz:ys.length≤sizeLine) (t:Nat) :
 Inv X f' σ (upd H p (.lst ys)) { s with heap:=s.heap.update p f,toks:=t }:=by
 have e:(s.heap.update p f).get? p=some { cls:=.type "list",data:=.seq its'.toArray n' }:=by
  rw [Kl f ho (by rw [hf] <;> rfl),hf]
 refine I.write (x:=p) (e:=p) (by rw [h]; trivial) (.inl rfl) (fun b u hb q=>(HZ _ _ (HC hb)).trans q) ⟨_,e⟩ ?_;exact ⟨hz,its',n',r,e⟩
def BR:V→V→V→Hp→(Hp→Prop)→Prop:=fun o i v H Q=>∃ p xs k j,o=.ref p∧i=.int k∧H p=some (.lst xs)∧ixN xs.length k=some j∧Q (upd H p (.lst (xs.set j v)))
theorem qY:Dy X BR:=by
 intro f' s σ H o i v ov iv u Q I ro ri rv h;obtain ⟨p,xs,k,j,rfl,rfl,hp,hj,q⟩:=h;cases ro;obtain ⟨t,rfl⟩:=ri;obtain ⟨its,n,r,ho,hz⟩:=I.lst hp;obtain ⟨h1,h2,h3,h4⟩:=og hj;have hl:=r.length;have hn:=jA;have I':Inv X f' σ (upd H p (.lst (xs.set j v))) { s with heap:=s.heap.update p (JZ (·.setIfInBounds j u)) } :=
  I.lstUpd hp ho (mO its n j u) (r.set rv j) (by rw [Fu]; exact hz) s.toks
 by_cases h0:0≤k
 · have hk:k.toNat=j:=by
    rw [Mj h0 h4] at h1;exact Fj h1
   exact PySem.W.ki_setAt ho h0 (by omega) (by rw [v_,← hl]; exact h4) (by rw [hk]; exact ⟨_,I',q⟩)
 · have hk:(k + (its.toArray.size:Int)).toNat=j:=by
    rw [seqIndex_neg (by omega) h3] at h1;rw [v_,← hl];exact Fj h1
   exact PySem.W.ki_setBack ho (by omega) (by rw [v_,← hl]; exact h3) (by omega) (by rw [hk]; exact ⟨_,I',q⟩)
theorem jH (lo hi:Option Int) (n:Nat):(HJ lo hi none n).1=((HT.sIx n 0 lo:Nat):Int)∧(HJ lo hi none n).2.1=((HT.sIx n n hi:Nat):Int)∧(HJ lo hi none n).2.2=1:=by
 refine ⟨?_,?_,rfl⟩
 · cases lo with
   | none=>simp [HJ,HT.sIx]
   | some i =>
    simp only [HJ,HT.sIx,L9,show (1:Int) > 0 by decide,if_true];by_cases h:i < 0
    · simp only [h,if_true] <;> omega
    · simp only [h,if_false] <;> omega
 · cases hi with
   | none=>simp [HJ,HT.sIx]
   | some i =>
    simp only [HJ,HT.sIx,L9,show (1:Int) > 0 by decide,if_true];by_cases h:i < 0
    · simp only [h,if_true] <;> omega
    · simp only [h,if_false] <;> omega
theorem iS (its:List d_) (lo hi:Option Int):slicePick its.toArray lo hi none=((its.drop (HT.sIx its.length 0 lo)).take (HT.sIx its.length its.length hi - HT.sIx its.length 0 lo)).toArray:=by
 obtain ⟨h1,h2,h3⟩:=jH lo hi its.toArray.size;unfold slicePick;rw [h1,h2,h3];simp only [sliceRange_one,pick_run,v_] <;> rfl
def Em (K:ck):V→Option Int→Option Int→Hp→VK→Prop:=fun x lo hi H Q=>∃ a xs,x=.ref a∧SqL K H a xs∧∀ p,H p=none→Q (.ref p) (upd H p (.lst (qX xs lo hi)))
theorem oi:SlR X (Em X.K):=by
 intro f' s σ H x v vl vu lo hi sl Q I rx hs pl pu h;obtain ⟨a,xs,rfl,hx,q⟩:=h;cases rx;obtain ⟨its,r,ht,hz⟩:=I.list hx;have hlen:=r.length;refine ⟨"list",_,Jp.lookup,ht.isList.typeIs,?_⟩;refine Jy ht.isList hs pl pu .none (by simp) ?_ (by rw [v_] <;> omega);rw [iS,← hlen];refine ⟨.ref s.heap.objs.size,_,I.laid (t':=s.toks) (o:=.lst (qX xs lo hi)) (fun b ob q=>on _ q) (p_ _) ?_,rfl,q _ (I.hok.fresh (p_ _))⟩;exact ⟨EW (gR xs lo hi) hz,_,0,(r.drop (HT.sIx xs.length 0 lo)).take (HT.sIx xs.length xs.length hi - HT.sIx xs.length 0 lo),EY _ rfl⟩
def gx:V→Bool
 | .non=>b_
 | .bl _=>b_
 | .int _=>b_
 | .str _=>b_
 | _=>c_
def eqV:V→V→Bool
 | .non,.non=>b_
 | .bl a,.bl b=>a == b
 | .bl a,.int b=>(if a then 1 else 0) == b
 | .int a,.bl b=>a == (if b then 1 else 0)
 | .int a,.int b=>a == b
 | .str a,.str b=>a == b
 | _,_=>c_
theorem xZ {A:EQ} {s:e_} {y x:V} {u v:d_} (ry:RelV y u) (rx:RelV x v) (fy:gx y=b_) (fx:gx x=b_):SeqAt.EqAt A s u v (eqV y x):=by
 cases y with
 | non =>
  cases ry;cases x with
  | non=>cases rx; exact SeqAt.EqAt.same _
  | bl b=>cases rx; exact SeqAt.EqAt.none_bool b
  | int b=>obtain ⟨t,rfl⟩:=rx; exact SeqAt.EqAt.none_int b t
  | str b=>obtain ⟨t,rfl⟩:=rx; exact SeqAt.EqAt.none_str b t
  | _=>exact absurd (show c_=b_ from fx) n_
 | bl a =>
  cases ry;cases x with
  | non=>cases rx; exact SeqAt.EqAt.bool_none a
  | bl b=>cases rx; exact SeqAt.EqAt.bool_bool a b
  | int b=>obtain ⟨t,rfl⟩:=rx; exact SeqAt.EqAt.bool_int a b t
  | str b=>obtain ⟨t,rfl⟩:=rx; exact SeqAt.EqAt.bool_str a b t
  | _=>exact absurd (show c_=b_ from fx) n_
 | int a =>
  obtain ⟨t',rfl⟩:=ry;cases x with
  | non=>cases rx; exact SeqAt.EqAt.int_none a t'
  | bl b=>cases rx; exact SeqAt.EqAt.int_bool a t' b
  | int b=>obtain ⟨t,rfl⟩:=rx; exact SeqAt.EqAt.int_int a t' b t
  | str b=>obtain ⟨t,rfl⟩:=rx; exact Lc a t' b t
  | _=>exact absurd (show c_=b_ from fx) n_
 | str a =>
  obtain ⟨t',rfl⟩:=ry;cases x with
  | non=>cases rx; exact SeqAt.EqAt.str_none a t'
  | bl b=>cases rx; exact SeqAt.EqAt.str_bool a t' b
  | int b=>obtain ⟨t,rfl⟩:=rx; exact Lb a t' b t
  | str b=>obtain ⟨t,rfl⟩:=rx; exact SeqAt.EqAt.str_str a t' b t
  | _=>exact absurd (show c_=b_ from fx) n_
 | _=>exact absurd (show c_=b_ from fy) n_
def eqU (x:V) (u:d_):Bool:=match u with
 | .none=>eqV .non x
 | .bool b=>eqV (.bl b) x
 | .int i _=>eqV (.int i) x
 | .str z _=>eqV (.str z) x
 | _=>c_
theorem tt {x y:V} {u:d_} (r:RelV y u) (f:gx y=b_):eqU x u=eqV y x:=by
 cases y with
 | non=>cases r; rfl
 | bl b=>cases r; rfl
 | int i=>obtain ⟨t,rfl⟩:=r; rfl
 | str z=>obtain ⟨t,rfl⟩:=r; rfl
 | _=>exact absurd (show c_=b_ from f) n_
theorem gS {x:V}:∀ {xs:List V} {us:List d_},Vals xs us→xs.all gx=b_→us.any (eqU x)=xs.any fun y=>eqV y x
 | _,_,.nil,_=>rfl
 | y :: xs,u :: us,.cons r t,f=>by
  rw [Hi,i_] at f;rw [JC,JC,tt r f.1,gS t f.2]
theorem fA {A:EQ} {s:e_} {x:V} {v:d_} (rx:RelV x v) (fx:gx x=b_):∀ {xs:List V} {us:List d_},Vals xs us→xs.all gx=b_→∀ u∈us,SeqAt.EqAt A s u v (eqU x u)
 | _,_,.nil,_=>fun u hu=>by cases hu
 | y :: xs,u :: us,.cons r t,f=>fun u' hu=>by
  rw [Hi,i_] at f;rcases q_.mp hu with rfl | hu
  · rw [tt r f.1]; exact xZ r rx f.1 fx
  · exact fA rx fx t f.2 u' hu
def inV (x:V) (xs:List V):Bool:=xs.any fun y=>eqV y x
def rIn (K:ck) (neg:Bool):R2:=fun x y H Q=>∃ p xs,y=.ref p∧(SqL K H p xs∨SqT K H p xs)∧gx x=b_∧xs.all gx=b_∧Q (.bl (if neg then !inV x xs else inV x xs)) H
theorem oj:OpR X (Fp .In) (rIn X.K c_):=by
 intro f' s σ H x y v u Q I rx ry h;obtain ⟨p,xs,rfl,hq,fx,fs,q⟩:=h;cases ry;rcases hq with hq | hq
 · obtain ⟨its,r,pl,hz⟩:=I.list hq;refine SeqAt.in_listAt (eqU x) pl.isList (fun w hw=>fA rx fx r fs w (by simpa using hw)) ⟨.bl _,H,I,rfl,?_⟩;rw [show its.toArray.any (eqU x)=its.any (eqU x) by simp,gS r fs];exact q
 · obtain ⟨its,r,pl,hz⟩:=I.tuple hq;refine SeqAt.in_tupleAt (eqU x) pl (fun w hw=>fA rx fx r fs w (by simpa using hw)) ⟨.bl _,H,I,rfl,?_⟩;rw [show its.toArray.any (eqU x)=its.any (eqU x) by simp,gS r fs];exact q
theorem jI:OpR X (Fp .NotIn) (rIn X.K b_):=by
 intro f' s σ H x y v u Q I rx ry h;obtain ⟨p,xs,rfl,hq,fx,fs,q⟩:=h;cases ry;rcases hq with hq | hq
 · obtain ⟨its,r,pl,hz⟩:=I.list hq;refine SeqAt.notIn_listAt (eqU x) pl.isList (fun w hw=>fA rx fx r fs w (by simpa using hw)) ⟨.bl _,H,I,rfl,?_⟩;rw [show its.toArray.any (eqU x)=its.any (eqU x) by simp,gS r fs];exact q
 · obtain ⟨its,r,pl,hz⟩:=I.tuple hq;refine SeqAt.notIn_tupleAt (eqU x) pl (fun w hw=>fA rx fx r fs w (by simpa using hw)) ⟨.bl _,H,I,rfl,?_⟩;rw [show its.toArray.any (eqU x)=its.any (eqU x) by simp,gS r fs];exact q
theorem op_notIn_str:OpR X (Fp .NotIn) (fun x y H Q=>∃ i j,x=.str i∧y=.str j∧Q (.bl (!(!(FM j i 0 j.length 1).isEmpty))) H):=by
 intro f' s σ H x y v u Q I rx ry h;obtain ⟨i,j,rfl,rfl,q⟩:=h;obtain ⟨t,rfl⟩:=rx;obtain ⟨t',rfl⟩:=ry;exact notIn_str ⟨.bl _,H,I,rfl,q⟩
theorem CallR.or {f:d_} {r r':List V→Hp→VK→Prop} (h:CallR X f r) (h':CallR X f r'):CallR X f (fun xs H Q=>r xs H Q∨r' xs H Q):=by
 intro f' s σ H xs us Q I rs q;rcases q with q | q
 · exact h f' s σ H xs us Q I rs q
 · exact h' f' s σ H xs us Q I rs q
theorem iT:CallR X (.type "tuple") (fun xs H Q=>∃ p ys,xs=[.ref p]∧((SqL X.K H p ys∧∀ l,H l=none→Q (.ref l) (upd H l (.tup ys)))∨(SqT X.K H p ys∧Q (.ref p) H))):=by
 intro f' s σ H xs us Q I r h;obtain ⟨p,ys,rfl,h⟩:=h;obtain ⟨u,rfl,rx⟩:=gw r;cases rx;rcases h with ⟨hq,q⟩ | ⟨hq,q⟩
 · obtain ⟨its,r',pl,hz⟩:=I.list hq;have hlen:=r'.length;refine call_tuple_list pl.isList (fun h' kp=>?_) (by simp only [v_] <;> omega);have I1:Inv X f' σ H { s with heap:=h' }:=I.kept (t':=s.toks) kp;have I2:Inv X f' σ (upd H h'.objs.size (.tup ys)) { s with heap:=h'.push { cls:=.type "tuple",data:=.seq its.toArray } } :=
    I1.laid (t':=s.toks) (fun b o e=>on _ e) (p_ _) (show ObjOk X.prog X.w _ _ _ (.tup ys) from ⟨hz,its,r',MP _ _⟩)
   exact ⟨.ref h'.objs.size,_,I2,rfl,q _ (I1.hok.fresh (p_ _))⟩
 · obtain ⟨its,r',pl,hz⟩:=I.tuple hq;exact call_tuple_same pl ⟨.ref p,H,I,rfl,q⟩
def tyV (K:ck) (T:String) (x:V) (H:Hp):Prop:=match x with
 | .str _=>T="str"
 | .int _=>T="int"
 | .ref p=>(T="list"∧∃ xs,SqL K H p xs)∨(T="tuple"∧∃ o,K.lookup p=some o∧o.cls=.type "tuple"∧o.dict=none) ∨
  (T="dict"∧((∃ kvs,H p=some (.dK kvs))∨∃ kvs,H p=some (.dT kvs)))∨(T="set"∧∃ S n,H p=some (.set S n))
 | _=>False
theorem ya {f':List (k_×Obj)} {σ:St} {H:Hp} {s:e_} {T:String} {x:V} {v:d_} (I:Inv X f' σ H s) (r:RelV x v) (ty:tyV X.K T x H) :
 s.TypeIs v T∧∀ a,v=.ref a→∃ ob,s.heap.get? a=some ob∧ob.dict=none:=by
 cases x with
 | str z =>
  obtain ⟨t,rfl⟩:=r;cases (show T="str" from ty);exact ⟨Ip s z t,fun _ e=>nomatch e⟩
 | int i =>
  obtain ⟨t,rfl⟩:=r;cases (show T="int" from ty);exact ⟨typeIs_int s i t,fun _ e=>nomatch e⟩
 | ref p =>
  cases r;rcases ty with ⟨rfl,xs,hq⟩ | ⟨rfl,o,hk,hc,hd⟩ | ⟨rfl,hk⟩ | ⟨rfl,S,n,hk⟩
  · obtain ⟨its,_,pl,_⟩:=I.list hq;refine ⟨pl.isList.typeIs,fun a e=>?_⟩;cases e;obtain ⟨o,n,e,c,hd,_⟩:=pl;exact ⟨o,e,hd⟩
  · refine ⟨⟨o,I.kIn p o hk,hc⟩,fun a e=>?_⟩;cases e;exact ⟨o,I.kIn _ o hk,hd⟩
  · have z:∃ o,s.heap.get? p=some o∧o.ExactDict:=by
     rcases hk with ⟨kvs,hk⟩ | ⟨kvs,hk⟩
     · obtain ⟨_,_,_,_,o,_,_,e,ex,_⟩:=I.hok p _ hk;exact ⟨o,e,ex⟩
     · obtain ⟨_,_,_,_,o,_,_,e,ex,_⟩:=I.hok p _ hk;exact ⟨o,e,ex⟩
    obtain ⟨o,e,ex⟩:=z;refine ⟨⟨o,e,ex.1⟩,fun a e2=>?_⟩;cases e2;exact ⟨o,e,ex.2.1⟩
  · obtain ⟨o,_,_,_,e,ex,_⟩:=I.hok p _ hk;refine ⟨⟨o,e,ex.1⟩,fun a e2=>?_⟩;cases e2;exact ⟨o,e,ex.2.1⟩
 | _=>exact FJ ty
def tBM (K:ck) (T:String) (r:V→List V→Hp→VK→Prop) (to:TE) (t:TA):TE:=fun σ H Q=>to σ H fun x H1=>tyV K T x H1∧t σ H1 fun xs H2=>r x xs H2 Q
variable {o e:D_} {es:List D_} {to:TE} {t:TA} {name:Str} {apos cpos:Pos} {T id:String} {r:V→List V→Hp→VK→Prop}
theorem yb (pa:PlainAttrs T) (slot:Slot T name id) (hty:typeOf (.builtin id)=pure (.type "method_descriptor")) (hm:MtR X id r) (ho:PE X o to) (ha:PA X (e :: es) t)
 (hbase:Ix o name X.env (eval o X.env)=eval o X.env:=by rfl)
 (hfew:((FV cpos (j_ (e :: es) X.env)).all (fun x=>!x.1) && (Lw cpos (Jq [] X.env)).all (fun x=>x.1.isSome)
   && h_ ((e :: es).length + ([]:List Hz).length + (if ([]:List Hz).isEmpty then 0 else 1) < 30))=b_:=by rfl)
 (hline:(apos.endLine == cpos.line)=b_:=by rfl) (hs:j_ (e :: es) X.env=(c_,eval e X.env) :: j_ es X.env:=by rfl) (hplain:(FV cpos (j_ es X.env)).any (·.1)=c_:=by rfl) :
 PE X (.Call (.Attribute o name apos) (e :: es) [] cpos) (tBM X.K T r to t):=by
 intro f' s σ H Q I h;refine wpAny_Call_method_late hbase hfew hline rfl (thn (ho f' s σ H _ I h) fun v s1 ⟨x,H1,I1,r1,ty,q1⟩=>?_);obtain ⟨h1,h2⟩:=ya I1 r1 ty;refine ⟨T,id,pa,slot,hty,h1,h2,?_⟩;have hA:=ha cpos f' s1 σ H1 _ I1 q1;rw [hs] at hA ⊢;refine Calls.callWith_builtin (by show (c_ || (FV cpos (j_ es X.env)).any (·.1))=c_; rw [hplain] <;> rfl) (Kv ?_);exact thn hA fun us s2 ⟨vs,H2,I2,r2,q2⟩=>hm f' s2 σ H2 x vs v us Q I2 r1 r2 q2
end
def MtM (X:Cx) (id:String) (r:V→List V→Hp→VK→Prop):Prop :=
 ∀ (f':List (k_×Obj)) (s:e_) (σ:St) (H:Hp) (x:V) (xs:List V) (v:d_) (us:List d_) (Q:VK),Inv X f' σ H s→RelV x v→Vals xs us→r x xs H Q →
  C_ (A_ X.prog X.w) X.A (call (.builtin id) (v :: us)) (EP X f' σ Q) X.xe s
theorem Vals.one:∀ {x:V} {us:List d_},Vals [x] us→∃ u,us=[u]∧RelV x u
 | _,_,.cons r .nil=>⟨_,rfl,r⟩
theorem Vals.two:∀ {x y:V} {us:List d_},Vals [x,y] us→∃ u v,us=[u,v]∧RelV x u∧RelV y v
 | _,_,_,.cons r (.cons q .nil)=>⟨_,_,rfl,r,q⟩
theorem Vals.zero:∀ {us:List d_},Vals [] us→us=[]
 | _,.nil=>rfl
theorem Vals.reverse {xs:List V} {us:List d_} (h:Vals xs us):Vals xs.reverse us.reverse:=by
 induction h with
 | nil=>exact .nil
 | cons r t ih=>rw [GP,GP]; exact Vals.append ih (.cons r .nil)
theorem Vals.rep {xs:List V} {us:List d_} (h:Vals xs us):∀ k:Nat,Vals (E6 k xs).flatten (E6 k us).flatten
 | 0=>.nil
 | k + 1=>by
  rw [IK,IK,LR,LR];exact Vals.append h (Vals.rep h k)
section
variable {X:Cx} {f':List (k_×Obj)} {σ:St} {H:Hp} {s:e_} {l b:k_} {xs ys zs:List V}
theorem Inv.lset {its its':List d_} {n:Nat} {f:Array d_→Array d_} {t':Nat} (I:Inv X f' σ H s) (hH:H l=some (.lst xs))
 (e:s.heap.get? l=some { cls:=.type "list",data:=.seq its.toArray n }) (hf:f its.toArray=its'.toArray) (hv:Vals ys its') (hz:ys.length≤sizeLine) :
 Inv X f' σ (upd H l (.lst ys)) { s with heap:=s.heap.update l (JZ f),toks:=t' }:=by
 have q:=L7 e f;rw [hf] at q;refine I.write (x:=l) (e:=l) (by rw [hH]; exact trivial) (.inl rfl) (fun b' u hb hu=>(HZ s.heap (JZ f) (HC hb)).trans hu) ⟨_,q⟩ ?_;exact ⟨hz,its',_,hv,q⟩
theorem Inv.lnew {its:List d_} {t':Nat} (I:Inv X f' σ H s) (hv:Vals ys its) (hz:ys.length≤sizeLine) :
 Inv X f' σ (upd H s.heap.objs.size (.lst ys)) { s with heap:=s.heap.push { cls:=.type "list",data:=.seq its.toArray },toks:=t' } :=
 I.laid (fun _ _ q=>on _ q) (p_ _) ⟨hz,its,0,hv,EY _ rfl⟩
theorem Inv.fresh (I:Inv X f' σ H s):H s.heap.objs.size=none:=I.hok.fresh (p_ _)
theorem Inv.lstM (I:Inv X f' σ H s) (hH:H l=some (.lst xs)):xs.length≤sizeLine∧∃ (its:List d_) (n:Nat),Vals xs its∧xs.length=its.length∧s.heap.get? l=some { cls:=.type "list",data:=.seq its.toArray n }:=by
 obtain ⟨z,its,n,r,e⟩:=I.hok l _ hH;exact ⟨z,its,n,r,r.length,e⟩
end
section
variable {X:Cx}
def uL:V→List V→Hp→VK→Prop:=fun x vs H Q=>∃ l xs y,x=.ref l∧vs=[y]∧H l=some (.lst xs)∧xs.length < sizeLine∧Q .non (upd H l (.lst (xs ++ [y])))
theorem om:MtM X "list.append" uL:=by
 intro f' s σ H x vs v us Q I rx rv h;obtain ⟨l,xs,y,rfl,rfl,hH,hz,q⟩:=h;cases rx;obtain ⟨u,rfl,ru⟩:=rv.one;obtain ⟨z,its,n,r,hl,e⟩:=I.lstM hH;refine I0 IB ⟨_,e,rfl⟩ KT (Ku _ _) (Ls l its.toArray n u (by rw [v_]; omega)) ⟨e,?_⟩;refine ⟨.non,_,I.lset (its':=its ++ [u]) hH e (by simp) (r.append (.cons ru .nil)) ?_,rfl,q⟩;rw [z_,Km];omega
def DG:R2:=fun x y H Q=>∃ l b xs zs,x=.ref l∧y=.ref b∧H l=some (.lst xs)∧H b=some (.lst zs)∧xs.length + zs.length≤sizeLine∧∀ p,H p=none→Q (.ref p) (upd H p (.lst (xs ++ zs)))
theorem tu:OpR X (GE .Add) DG:=by
 intro f' s σ H x y v u Q I rx ry h;obtain ⟨l,b,xs,zs,rfl,rfl,hH,hB,hz,q⟩:=h;cases rx;cases ry;obtain ⟨z,its,n,r,hl,e⟩:=I.lstM hH;obtain ⟨z2,its2,n2,r2,hl2,e2⟩:=I.lstM hB;refine PySem.P.add_list e e2 ?_ (by rw [v_,v_]; omega);have ea:its.toArray ++ its2.toArray=(its ++ its2).toArray:=by simp
 rw [ea];exact ⟨.ref _,_,I.lnew (t':=s.toks) (r.append r2) (by rw [z_]; omega),rfl,q _ I.fresh⟩
end
section
variable {prog:pi} {w:EO} {A:EQ} {E:d_→e_→Prop} {s:e_}
end
section
variable {X:Cx}
end
end L2
namespace Att
open PySem PySem.W PySem.Calls PyProof.Rows
theorem gT {P:Kt} {h:Fg}:∀ (ns:List Int) (vs:List d_),WellAll P h vs (ns.map WData.int)→LG vs ns:=by
 intro ns
 induction ns with
 | nil =>
  intro vs w;rw [LQ] at w;cases w;exact .nil
 | cons n ns ih =>
  intro vs w;rw [Fe] at w;cases w with
  | cons a b =>
   cases a;exact .cons _ _ (ih _ b)
theorem oo {l:OpenLaw} {n:Nat} (hn:l.most=some n) {P:Kt} {h:Fg} {args:List WData} {vals:List d_}
 (hpre:l.row.toRowW.claim.pre args=b_) (hwl:WellAll P h vals args) :
 ∃ a vs ns,vals=[w_ a]∧args=[WData.list (ns.map WData.int)]∧h.get? a=some { cls:=.type "list",data:=.seq vs.toArray }∧LG vs ns∧ns.length≤n:=by
 have hsh:WShape.hasAll [] args [.list .int]=b_:=(pre_splitW hpre).1;have hc:l.pre.holds [] { args:=args }=b_:=(pre_splitW hpre).2;obtain ⟨d,r,rfl,h1,h2⟩:=hasAllW_cons hsh;obtain rfl:=hasAllW_nil h2;obtain ⟨xs,rfl,h3⟩:=hasW_list h1;obtain ⟨ns,rfl⟩:=items_int h3;have hlen:ns.length≤n:=by
  unfold OpenLaw.pre at hc;have h4:(WTm.not (.lt (.lit (.int (n:Int))) (.len (.arg 0)))).holds [] { args:=[.list (ns.map .int)] }=b_:=by
   have h4:=(holds_andW hc).1;rw [hn] at h4;exact h4
  have h5:=condW_of h4 (w_not (w_lt w_lit (w_len_list (w_arg rfl))));rw [s_] at h5;refine Ma fun q=>?_;have q':(n:Int) < ((ns.length:Nat):Int):=by omega
  first
   | (rw [decide_eq_true q'] at h5; exact absurd h5 (by decide))
   | (simp at h5; omega)
 cases hwl with
 | cons w1 w2 =>
  cases w2;cases w1 with
  | list ho hall=>exact ⟨_,_,ns,rfl,rfl,ho,gT ns _ hall,hlen⟩
theorem oq (l:OpenLaw) (args:List WData):l.row.toRowW.claim.post args (.bool b_) args=b_ :=
 postW_of (r:=l.row.toRowW) (X:=(b_ == b_))
  (show WShape.has [] (.bool b_) .bool=b_ by first | rfl | decide | simp [WShape.has,WShape.arms,WShape.armsAll])
  (show (WTm.eq .res (.lit (.bool b_))).value [] { args:=args,res:=some (.bool b_),after:=args }=some (.bool (b_ == b_)) from w_eq_bool (w_res rfl) w_lit) rfl
theorem attach_call {l:OpenLaw} {n:Nat} {q:pi} {loose:List Str} {XP:(Str→Option d_)→Fg→Prop} {YP:EO→Fg→Prop} {d:DefRec}
 (hn:l.most=some n) (hdf:d.params.defaults=[])
 (call:∀ (w:EO) (s₀ s₁:e_) (mg mb:Str→Option d_) (fa:k_) (o:Obj) (pm cd doc:d_) (a:k_) (vs:List d_) (ns:List Int),
   Ground q loose [] XP w s₀ mg mb s₁.heap→YP w s₁.heap →
   s₁.heap.get? fa=some o→o.data=.func (docDef d.name d.params d.body d.scope pm cd doc)→s₁.heap.CodeRec cd d.name→mg d.name=some (.ref fa) →
   s₁.heap.get? a=some { cls:=.type "list",data:=.seq vs.toArray }→LG vs ns→ns.length≤n→s₁.gens=#[] →
   HW (A_ l.prog w) KM (.call (.ref fa) ⟨[.ref a],[]⟩) (fun r s'=>r=.ok (.ret (.bool b_))∧OldK s₁.heap s'.heap∧s'.os=s₁.os∧IT s'.gens) s₁) :
 WalkO q loose XP YP l.row.toRowW d [] (fun f vs=>Mu f vs):=by
 intro w s₀ s₁ mg mb G Y fa o pm cd doc dV kV ho hd hcd hD hmg hg args vals as hpre hlay hrd hwl hlo;obtain rfl:dV=.none:=Dflts.none hD hdf;obtain rfl:kV=.none:=Dflts.noKw hD;obtain ⟨a,vs,ns,rfl,rfl,hobj,hints,hlen⟩:=oo hn hpre hwl;refine enter_call (IM (call w s₀ s₁ mg mb fa o pm cd doc a vs ns G Y ho (fd_plain hd) hcd hmg hobj hints hlen hg) fun r s' hq=>?_);obtain ⟨rfl,h2,h3,h4⟩:=hq;exact ⟨.inl ⟨.bool b_,.bool b_,[],rfl,fun _=>rfl,.bool b_,oq l _,fun _=>⟨Ii,fun _ hm=>(nomatch hm)⟩⟩,h2,h3,h4⟩
section
variable {prog:pi} {w:EO} {A:EQ} {E:d_→e_→Prop} {s:e_} {K:Frag}
def DH (h:Fg) (L d:k_):List (k_×Obj):=(l_ h.objs.size).filterMap fun a=>if a=L∨a=d then none else (h.get? a).map fun o=>(a,o)
end
end Att
namespace L2
open PySem PySem.Spec PyProof.Rows
theorem fD:∀ {vs:List d_} {ns:List Int},LG vs ns→Vals (ns.map V.int) vs
 | _,_,.nil=>.nil
 | _,_,.cons n t h=>.cons ⟨t,rfl⟩ (fD h)
def BS (H:Hp):Prop:=∀ b,H b=none∨∃ o xs,H b=some (.frz o (.lst xs))
theorem qZ {P:pi} {w:EO} {K:ck} {mg mb:Str→Option d_} {CX:CXT} {k:Nat} {fa a:k_} {fd:F3} {x:Str} {sp:Sp} {s₁:e_} {vs:List d_} {ns:List Int}
 (KX:K.In s₁.heap) (hns:s₁.heap.Ns x_ mg) (hb:s₁.heap.Ns K_ mb) (hbb:∀ x:Str,x≠"__name__"→mb x=F9 x) (hlim:s₁.heap.NoLimit) (hg:s₁.gens=#[])
 (ha:s₁.heap.get? a=some { cls:=.type "list",data:=.seq vs.toArray }) (hi:LG vs ns) (hl:ns.length≤sizeLine) (hr:Room k KM)
 (F:∀ base:Fg,K.In base→base.Ns x_ mg→FnOk P w K mg base CX k fa fd [x] sp) (hbind:∀ (s:e_) (u:d_),KO s fd ⟨[u],[]⟩ [(x,u)])
 (hsp:∀ H:Hp,BS H→SqL K H a (ns.map V.int)→sp [.ref a] H (fun v _=>v=.bl b_) fun _ _ _=>False)
 (hCX:∀ H e s',CX [] H s₁ (fun _ _ _=>False) e s'→False) :
 HW (A_ P w) KM (.call (.ref fa) ⟨[.ref a],[]⟩) (fun r s'=>r=.ok (.ret (.bool b_))∧OldK s₁.heap s'.heap∧s'.os=s₁.os∧IT s'.gens) s₁:=by
 have rv:=fD hi;have lenV:=hi.length;have core:∀ H:Hp,BS H→SqL K H a (ns.map V.int)→HOk P w H s₁.heap→(∀ b,H b≠none→b=a)→(H a≠none→K.lookup a=none) →
  HW (A_ P w) KM (.call (.ref fa) ⟨[.ref a],[]⟩) (fun r s'=>r=.ok (.ret (.bool b_))∧OldK s₁.heap s'.heap∧s'.os=s₁.os∧IT s'.gens) s₁:=by
  intro H hO hS hok hA hK;have base_of:∀ {b:k_} {o:Obj},s₁.heap.get? b=some o→H b=none→(qQ s₁.heap H).get? b=some o:=fun e n=>qR e n;have noA:∀ {b:k_} {o:Obj} {es:Array DictEntry} {ep:Nat},s₁.heap.get? b=some o→o.data=.dict es ep→H b=none:=fun {b o es ep} e d=>by
   cases q:H b with
   | none=>rfl
   | some u =>
    have e':b=a:=hA b (by rw [q]; simp);subst e';rw [ha] at e; cases e;have d':Data.seq vs.toArray _=IW es ep:=d;cases d'
  have nsK:∀ {b:k_} {m:Str→Option d_},s₁.heap.Ns b m→(qQ s₁.heap H).Ns b m:=fun {b m} ⟨o,es,ep,e,d,r⟩=>⟨o,es,ep,base_of e (noA e d),d,r⟩;have hKb:K.In (qQ s₁.heap H):=fun b o e=>base_of (KX b o e) (by
   cases q:H b with
   | none=>rfl
   | some u =>
    have e':b=a:=hA b (by rw [q]; simp);subst e';rw [hK (by rw [q]; simp)] at e; cases e)
  have hM:Mod K mg (qQ s₁.heap H):=⟨hKb,nsK hns,⟨mb,nsK hb,hbb⟩,let ⟨mc,h1,h2⟩:=hlim; ⟨mc,nsK h1,h2⟩⟩;have e0:Env0 P w K mg (qQ s₁.heap H) KM [] s₁ H:=⟨rfl,hM,fun b o e=>uy e,Ib (nI _ _),trivial,fun b hb=>absurd (show b∈([]:List k_) from hb) (by simp),hok,.of_eq hg⟩;refine IM ((F _ hKb (nsK hns)).run KM [] s₁ H ⟨[.ref a],[]⟩ [.ref a] [.ref a] _ _ hr e0 (hbind s₁ (.ref a)) (.cons rfl .nil) (hsp H hO hS)) fun r s' h=>?_;cases r with
  | error e=>exact (hCX H e s' h).elim
  | ok fl =>
   cases fl with
   | next=>exact FJ h
   | brk=>exact FJ h
   | cont=>exact FJ h
   | ret u =>
    obtain ⟨v,H',os,bare,un,hok',r',q⟩:=h;have q':v=.bl b_:=q;subst q';obtain rfl:u=Gb b_:=r';refine ⟨rfl,OldK.of_keep fun b o e=>?_,os,bare⟩;cases q:H b with
    | none=>exact un.keep b o e q (by intro z; exact absurd (show b∈([]:List k_) from z) (by simp)) (by simp)
    | some u =>
     rcases hO b with z | ⟨ob,xs,z⟩
     · rw [q] at z; cases z
     · have z2:=un.frzs b ob _ z;obtain ⟨e1,_⟩:=hok b _ z;obtain ⟨e2,_⟩:=hok' b _ z2;rw [e] at e1; cases e1;exact e2
 cases hk:K.lookup a with
 | some o =>
  have e:=KX a o hk;rw [ha] at e;cases e;refine core (fun _=>none) (fun _=>.inl rfl) (.inr ⟨_,vs.toArray,_,hk,rfl,rfl,rfl,by rw [v_,lenV]; exact hl,by simpa using rv⟩) (fun b u z=>by have z':(none:Option HO)=some u:=z; cases z') (fun b z=>absurd rfl z) fun z=>absurd rfl z
 | none =>
  refine core (fun b=>if b=a then some (.frz { cls:=.type "list",data:=.seq vs.toArray } (.lst (ns.map V.int))) else none) (fun b=>?_) (.inl (.inr ⟨{ cls:=.type "list",data:=.seq vs.toArray },if_pos rfl⟩)) (fun b u z=>?_) (fun b z=>?_) fun _=>hk
  · by_cases hb:b=a
    · exact .inr ⟨_,_,if_pos hb⟩
    · exact .inl (if_neg hb)
  · by_cases hb:b=a
    · have z':=(if_pos hb).symm.trans z;cases z';subst hb;exact ⟨ha,by rw [s_]; exact hl,vs,_,rv,ha⟩
    · have z':=(if_neg hb).symm.trans z;cases z'
  · by_cases hb:b=a
    · exact hb
    · exact absurd (if_neg hb) z
theorem walk_of {l:Kf} {n k:Nat} {q:pi} {loose:List Str} {XP:(Str→Option d_)→Fg→Prop} {YP:EO→Fg→Prop} {d:DefRec} {K:Kt→ck} {CX:EO→CXT} {sp:EO→Sp} {x:Str}
 (hn:l.most=some n) (hn2:n≤sizeLine) (hdf:d.params.defaults=[]) (hr:Room k KM)
 (hY:∀ (w:EO) (h:Fg),YP w h→(K w.params).In h)
 (F:∀ (w:EO) (mg:Str→Option d_) (fa:k_) (h:Fg),(K w.params).In h→h.Ns x_ mg→mg d.name=some (.ref fa) →
   ∃ fd:F3,(∀ (s:e_) (u:d_),KO s fd ⟨[u],[]⟩ [(x,u)]) ∧
    ∀ base:Fg,(K w.params).In base→base.Ns x_ mg→FnOk l.prog w (K w.params) mg base (CX w) k fa fd [x] (sp w))
 (hsp:∀ (w:EO) (H:Hp) (a:k_) (ns:List Int),ns.length≤n→BS H→SqL (K w.params) H a (ns.map V.int)→sp w [.ref a] H (fun v _=>v=.bl b_) fun _ _ _=>False)
 (hCX:∀ (w:EO) (H:Hp) (s:e_) (e:d_) (s':e_),CX w [] H s (fun _ _ _=>False) e s'→False) :
 MJ q loose XP YP l.row.toRowW d [] (fun f vs=>Mu f vs):=by
 refine Att.attach_call hn hdf fun w s₀ s₁ mg mb fa o pm cd doc a vs ns G Y ho hd hcd hmg hobj hints hlen hg=>?_;have KX:=hY w _ Y;obtain ⟨fd,hb,hF⟩:=F w mg fa _ KX G.T.g hmg;exact qZ KX G.T.g G.T.b G.T.builtins G.T.nolimit hg hobj hints (EW hlen hn2) hr hF hb (fun H hO hS=>hsp w H a ns hlen hO hS) fun H e s'=>hCX w H s₁ e s'
def fV (s:F_):Arguments:=match s with
 | .FunctionDef _ a _ _ _ _ _ _ _ _=>a
 | _=>{ posonlyargs:=[],args:=[],vararg:=none,kwonlyargs:=[],kw_defaults:=[],kwarg:=none,defaults:=[] }
def cy (s:F_):List F_:=match s with
 | .FunctionDef _ _ b _ _ _ _ _ _ _=>b
 | _=>[]
def aE (s:F_):GB:=match s with
 | .FunctionDef _ _ _ _ _ _ sc _ _ _=>sc
 | _=>{ kind:=.function,names:=[],isGenerator:=c_,isCoroutine:=c_ }
abbrev CX0:CXT:=fun _ _ _ _ _ _=>False
abbrev E0:XK:=fun _ _ _=>False
theorem BU {X:Cx}:jC CX0 X E0:=fun _ _ _ _ _ _ _ h=>h.elim
structure Fun (K:ck) (x qual:Str) (st:F_) (f:k_) (fd:F3):Prop where
 ex:∃ (oc:d_) (od:Option k_) (kV doc pm:d_) (an:Option k_) (cdv ct:d_) (osl:Array (Option d_)),
  fd=G7 x qual (fV st) (cy st) (aE st) .none kV doc pm an cdv ct∧K.lookup f=some ⟨oc,od,.func fd,osl⟩∧I_ K cdv qual=b_
 kp:Gx K (.ref f)=b_
section
variable {P:pi} {w:EO} {K:ck} {mg:Str→Option d_} {base:Fg}
theorem Fun.ok {x qual:Str} {st:F_} {f:k_} {fd:F3} {N ps:List Str} {k:Nat} {sp:Sp} (F:Fun K x qual st f fd) (S:eU N ps (aE st)) (len:∀ vs H Q E,sp vs H Q E→vs.length=ps.length)
 (hbody:∀ (cdv:d_) (A:EQ) (outer:List Env) (s:e_) (H:Hp) (vs:List V) (Q:VK) (E:XK),Room k (A.deeper (Ir qual (aE st) s.heap.objs.size f cdv))→sp vs H Q E →
   ∃ t,PSs (nv CX0 P w K mg base N qual (aE st) f cdv A outer s H E).nox (cy st) t∧t { nx:=fun _ H'=>Q .non H',rt:=Q } (start N vs) H):FnOk P w K mg base CX0 (k + 1) f fd ps sp:=by
 obtain ⟨oc,od,kV,doc,pm,an,cdv,ct,osl,rfl,lk,hcd⟩:=F.ex;refine xU lk hcd S len fun A outer s H vs Q E hr hsp=>?_;obtain ⟨t,h,q⟩:=hbody cdv A outer s H vs Q E hr hsp;exact ⟨t,h.nox,q⟩
theorem Fun.binds {x qual:Str} {st:F_} {f:k_} {fd:F3} {ps:List Str} (F:Fun K x qual st f fd)
 (h:∀ (kV doc pm:d_) (an:Option k_) (cdv ct:d_) (us:List d_),us.length=ps.length→bindArgs (G7 x qual (fV st) (cy st) (aE st) .none kV doc pm an cdv ct) ⟨us,[]⟩=pure (ps.zip us)):Binds K fd ps []:=by
 obtain ⟨oc,od,kV,doc,pm,an,cdv,ct,osl,rfl,lk,hcd⟩:=F.ex;exact .all (h kV doc pm an cdv ct)
theorem yc {x qual:Str} {st:F_} {f:k_} {oc:d_} {od an:Option k_} {osl:Array (Option d_)} {kV doc pm cdv ct:d_} (l:K.lookup f=some ⟨oc,od,.func (G7 x qual (fV st) (cy st) (aE st) .none kV doc pm an cdv ct),osl⟩)
 (c:I_ K cdv qual=b_) (k:Gx K (.ref f)=b_):Fun K x qual st f (G7 x qual (fV st) (cy st) (aE st) .none kV doc pm an cdv ct):=⟨⟨oc,od,kV,doc,pm,an,cdv,ct,osl,rfl,l,c⟩,k⟩
end
section
variable {X:Cx}
end
theorem tw {A B:Prop} (h:B):if c_=b_ then A else B:=by
 rw [if_neg n_];exact h
theorem tz {A B:Prop} (h:A):if b_=b_ then A else B:=by
 rw [if_pos rfl];exact h
def Same (H H':Hp):Prop:=∀ b o,H b=some o→H' b=some o
theorem Same.refl (H:Hp):Same H H:=fun _ _ h=>h
theorem Same.trans {H H1 H2:Hp} (a:Same H H1) (b:Same H1 H2):Same H H2:=fun c o h=>b c o (a c o h)
theorem Same.free {H H':Hp} (e:Same H H') {l:k_} (h:H' l=Fm):H l=Fm:=by
 cases q:H l with
 | none=>rfl
 | some o =>
  rw [e l o q] at h;cases h
theorem Same.seq {K:ck} {H H':Hp} {a:k_} {xs:List V} (e:Same H H') (h:SqL K H a xs):SqL K H' a xs:=by
 rcases h with (h | ⟨o,h⟩) | h
 · exact .inl (.inl (e _ _ h))
 · exact .inl (.inr ⟨o,e _ _ h⟩)
 · exact .inr h
end L2
namespace FD
open PySem PySem.Spec PyProof.Rows L2
inductive Dv where
 | non | bl (b:Bool) | int (i:Int) | str (x:Str) | tup (xs:List Dv) | lst (xs:List Dv) | scr (ns:List Int) | exn (c:Nat)
def xnm:Nat→Str
 | 0=>"NoName" | 1=>"NoTable" | 2=>"NoPath" | 3=>"NoAsk" | 4=>"NoNote" | 5=>"NoJar" | 6=>"NoNumber" | 7=>"NoText" | 8=>"NoStep" | _=>"JarError"
mutual
def Rep (K:ck) (H:Hp):Dv→V→Prop
 | .non,v=>v=.non
 | .bl b,v=>v=.bl b
 | .int i,v=>v=.int i
 | .str x,v=>v=.str x
 | .tup ds,v=>∃ a xs,v=.ref a∧H a=some (.tup xs)∧Reps K H ds xs
 | .lst ds,v=>∃ a xs,v=.ref a∧H a=some (.lst xs)∧Reps K H ds xs
 | .scr ns,v=>∃ a,v=.ref a∧SqL K H a (ns.map V.int)
 | .exn c,v=>∃ a o u C,v=.ref a∧H a=some (.frz o u)∧o.cls=.ref C∧GF K x_ (xnm c)=some (some (.ref C))
def Reps (K:ck) (H:Hp):List Dv→List V→Prop
 | [],vs=>vs=[]
 | d :: ds,vs=>∃ v us,vs=v :: us∧Rep K H d v∧Reps K H ds us
end
section
variable {K:ck} {H H':Hp}
mutual
theorem Rep.mono (e:Same H H'):∀ (d:Dv) (v:V),Rep K H d v→Rep K H' d v
 | .non,_,h=>h
 | .bl _,_,h=>h
 | .int _,_,h=>h
 | .str _,_,h=>h
 | .tup ds,v,h=>by
  obtain ⟨a,xs,r,h,q⟩:∃ a xs,v=.ref a∧H a=some (.tup xs)∧Reps K H ds xs:=h;exact ⟨a,xs,r,e _ _ h,Reps.mono e ds xs q⟩
 | .lst ds,v,h=>by
  obtain ⟨a,xs,r,h,q⟩:∃ a xs,v=.ref a∧H a=some (.lst xs)∧Reps K H ds xs:=h;exact ⟨a,xs,r,e _ _ h,Reps.mono e ds xs q⟩
 | .scr ns,v,h=>by
  obtain ⟨a,r,h⟩:∃ a,v=.ref a∧SqL K H a (ns.map V.int):=h;exact ⟨a,r,e.seq h⟩
 | .exn c,v,h=>by
  obtain ⟨a,o,u,C,r,h,q⟩:∃ a o u C,v=.ref a∧H a=some (.frz o u)∧o.cls=.ref C∧GF K x_ (xnm c)=some (some (.ref C)):=h;exact ⟨a,o,u,C,r,e _ _ h,q⟩
theorem Reps.mono (e:Same H H'):∀ (ds:List Dv) (vs:List V),Reps K H ds vs→Reps K H' ds vs
 | [],_,h=>h
 | d :: ds,vs,h=>by
  obtain ⟨v,us,r,h,q⟩:∃ v us,vs=v :: us∧Rep K H d v∧Reps K H ds us:=h;exact ⟨v,us,r,Rep.mono e d v h,Reps.mono e ds us q⟩
end
theorem Reps.nil:Reps K H [] []:=rfl
theorem Reps.cons {d ds v vs} (h:Rep K H d v) (t:Reps K H ds vs):Reps K H (d :: ds) (v :: vs):=⟨v,vs,rfl,h,t⟩
theorem Reps.length:∀ {ds:List Dv} {vs:List V},Reps K H ds vs→vs.length=ds.length
 | [],vs,h=>by cases (show vs=[] from h); rfl
 | d :: ds,vs,h=>by
  obtain ⟨v,us,r,_,q⟩:∃ v us,vs=v :: us∧Rep K H d v∧Reps K H ds us:=h;subst r;show us.length + 1=ds.length + 1;rw [Reps.length q]
theorem Reps.get:∀ {ds:List Dv} {vs:List V} {i:Nat} {v:V},Reps K H ds vs→vs[i]?=some v→∃ d,ds[i]?=some d∧Rep K H d v
 | [],vs,i,v,h,e=>by cases (show vs=[] from h); simp at e
 | d :: ds,vs,i,v,h,e=>by
  obtain ⟨v',us,r,h',q⟩:∃ v us,vs=v :: us∧Rep K H d v∧Reps K H ds us:=h;subst r;cases i with
  | zero=>simp at e; subst e; exact ⟨d,rfl,h'⟩
  | succ i =>
   obtain ⟨d',e',r'⟩:=Reps.get (i:=i) q (by simpa using e);exact ⟨d',by simpa using e',r'⟩
theorem Reps.get':∀ {ds:List Dv} {vs:List V} {i:Nat} {d:Dv},Reps K H ds vs→ds[i]?=some d→∃ v,vs[i]?=some v∧Rep K H d v
 | [],vs,i,v,h,e=>by simp at e
 | d :: ds,vs,i,d0,h,e=>by
  obtain ⟨v',us,r,h',q⟩:∃ v us,vs=v :: us∧Rep K H d v∧Reps K H ds us:=h;subst r;cases i with
  | zero=>simp at e; subst e; exact ⟨v',rfl,h'⟩
  | succ i =>
   obtain ⟨d',e',r'⟩:=Reps.get' (i:=i) q (by simpa using e);exact ⟨d',by simpa using e',r'⟩
theorem Reps.append:∀ {ds es:List Dv} {vs us:List V},Reps K H ds vs→Reps K H es us→Reps K H (ds ++ es) (vs ++ us)
 | [],es,vs,us,h,q=>by cases (show vs=[] from h); exact q
 | d :: ds,es,vs,us,h,q=>by
  obtain ⟨v',vs',r,h',t⟩:∃ v us,vs=v :: us∧Rep K H d v∧Reps K H ds us:=h;subst r;exact ⟨v',vs' ++ us,rfl,h',Reps.append t q⟩
theorem Reps.take:∀ {ds:List Dv} {vs:List V} (n:Nat),Reps K H ds vs→Reps K H (ds.take n) (vs.take n)
 | ds,vs,0,_=>by simp [Reps]
 | [],vs,n + 1,h=>by cases (show vs=[] from h); exact rfl
 | d :: ds,vs,n + 1,h=>by
  obtain ⟨v',vs',r,h',t⟩:∃ v us,vs=v :: us∧Rep K H d v∧Reps K H ds us:=h;subst r;exact ⟨v',vs'.take n,rfl,h',Reps.take n t⟩
theorem Reps.drop:∀ {ds:List Dv} {vs:List V} (n:Nat),Reps K H ds vs→Reps K H (ds.drop n) (vs.drop n)
 | ds,vs,0,h=>h
 | [],vs,n + 1,h=>by cases (show vs=[] from h); exact rfl
 | d :: ds,vs,n + 1,h=>by
  obtain ⟨v',vs',r,h',t⟩:∃ v us,vs=v :: us∧Rep K H d v∧Reps K H ds us:=h;subst r;exact Reps.drop n t
theorem Rep.lstE {ds:List Dv} {v:V} (h:Rep K H (.lst ds) v):∃ a xs,v=.ref a∧H a=some (.lst xs)∧Reps K H ds xs:=h
theorem Rep.tupE {ds:List Dv} {v:V} (h:Rep K H (.tup ds) v):∃ a xs,v=.ref a∧H a=some (.tup xs)∧Reps K H ds xs:=h
theorem Rep.exnE {c:Nat} {v:V} (h:Rep K H (.exn c) v):∃ a o u C,v=.ref a∧H a=some (.frz o u)∧o.cls=.ref C∧GF K x_ (xnm c)=some (some (.ref C)):=h
theorem Rep.scrE {ns:List Int} {v:V} (h:Rep K H (.scr ns) v):∃ a,v=.ref a∧SqL K H a (ns.map V.int):=h
end
theorem aA {H:Hp} {p:k_} (h:H p=none) (o:HO):Same H (upd H p o):=fun b u q=>by rw [ay (av q h)]; exact q
abbrev Ev:=List (Option Dv)
structure Envs (K:ck) (H:Hp) (σ:L2.St) (ρ:Ev):Prop where
 len:σ.length=ρ.length
 at':∀ (i:Nat) (d:Dv),ρ[i]?=some (some d)→∃ v,σ[i]?=some (some v)∧Rep K H d v
theorem Envs.mono {K:ck} {H H':Hp} {σ:L2.St} {ρ:Ev} (E:Envs K H σ ρ) (e:Same H H'):Envs K H' σ ρ :=
 ⟨E.len,fun i d h=>let ⟨v,h1,h2⟩:=E.at' i d h; ⟨v,h1,Rep.mono e d v h2⟩⟩
theorem Envs.set {K:ck} {H:Hp} {σ:L2.St} {ρ:Ev} {i:Nat} {d:Dv} {v:V} (E:Envs K H σ ρ) (r:Rep K H d v):Envs K H (σ.set i (some v)) (ρ.set i (some d)):=by
 refine ⟨by rw [Fu,Fu]; exact E.len,fun j d' h=>?_⟩;by_cases hj:i=j
 · subst hj;by_cases hl:i < ρ.length
   · rw [E7 hl] at h;cases h;exact ⟨v,by rw [E7 (by rw [E.len]; exact hl)],r⟩
   · rw [FY (by rw [Fu]; omega)] at h;cases h
 · rw [EU hj] at h;rw [EU hj];exact E.at' j d' h
def fgt (js:List Nat) (ρ:Ev):Ev:=js.foldl (fun r j=>r.set j none) ρ
theorem Envs.fgt1 {K:ck} {H:Hp} {σ:L2.St} {ρ:Ev} (j:Nat) (E:Envs K H σ ρ):Envs K H σ (ρ.set j none):=by
 refine ⟨by rw [Fu]; exact E.len,fun i d h=>?_⟩;by_cases hj:j=i
 · subst hj;by_cases hl:j < ρ.length
   · rw [E7 hl] at h;cases h
   · rw [FY (by rw [Fu]; omega)] at h;cases h
 · rw [EU hj] at h;exact E.at' i d h
theorem Envs.fgt {K:ck} {H:Hp} {σ:L2.St}:∀ (js:List Nat) {ρ:Ev},Envs K H σ ρ→Envs K H σ (fgt js ρ)
 | [],_,E=>E
 | j :: js,_,E=>Envs.fgt js (E.fgt1 j)
inductive Rs (α:Type) where
 | ok (a:α)
 | exc (c:Nat)
inductive Fl where
 | nx (ρ:Ev)
 | rt (d:Dv)
 | exc (c:Nat)
def Fly (N:k_→Prop) (H:Hp) (e:k_) (cls:d_) (h:Fg):Prop:=H e=none∧N e∧∃ oe vs a0,h.get? e=some oe∧oe.cls=cls∧oe.data=.fields vs∧vs[0]?=some a0 ∧
 (vs[1]?=some .none∨∃ T oT ts,vs[1]?=some (.ref T)∧T≠e∧H T=none∧N T∧h.get? T=some oT∧oT.data=.fields ts∧ts[3]?=some .none)
def BV (X:Cx) (a:k_):Prop:=X.s₀.heap.get? a=none∧∀ p∈X.pn,p.1≠a
def BW (X:Cx) (H:Hp) (c:Nat) (e:d_) (s:e_):Prop:=∃ a C,e=.ref a∧GF X.K x_ (xnm c)=some (some (.ref C))∧Fly (BV X) H a (.ref C) s.heap
def XW (X:Cx) (c:Nat) (H:Hp):Prop:=∀ f' σ H' s e,Same H H'→Inv X f' σ H' s→BW X H' c e s→X.xe e s
theorem XW.mono {X:Cx} {c:Nat} {H H':Hp} (h:XW X c H) (e:Same H H'):XW X c H':=fun f' σ H1 s x e1 I q=>h f' σ H1 s x (e.trans e1) I q
def Out (X:Cx) (H:Hp) (o:Option (Rs Dv)) (Q:VK):Prop:=match o with
 | none=>False
 | some (.exc c)=>XW X c H
 | some (.ok d)=>∀ v H',Same H H'→Rep X.K H' d v→Q v H'
def OutB (X:Cx) (H:Hp) (o:Option (Rs Bool)) (Q:Bool→Hp→Prop):Prop:=match o with
 | none=>False
 | some (.exc c)=>XW X c H
 | some (.ok d)=>∀ H',Same H H'→Q d H'
def OutA (X:Cx) (H:Hp) (o:Option (Rs (List Dv))) (Q:List V→Hp→Prop):Prop:=match o with
 | none=>False
 | some (.exc c)=>XW X c H
 | some (.ok ds)=>∀ vs H',Same H H'→Reps X.K H' ds vs→Q vs H'
def OutS (X:Cx) (H:Hp) (o:Option Fl) (D:qS):Prop:=match o with
 | none=>False
 | some (.exc c)=>XW X c H
 | some (.rt d)=>∀ v H',Same H H'→Rep X.K H' d v→D.rt v H'
 | some (.nx ρ)=>∀ σ H',Same H H'→Envs X.K H' σ ρ→D.nx σ H'
def bnd {α β:Type} (o:Option (Rs α)) (k:α→Option (Rs β)):Option (Rs β):=match o with
 | none=>none
 | some (.exc c)=>some (.exc c)
 | some (.ok a)=>k a
def fr {α:Type} (o:Option (Rs α)) (k:α→Option Fl):Option Fl:=match o with
 | none=>none
 | some (.exc c)=>some (.exc c)
 | some (.ok a)=>k a
def sq (o:Option Fl) (k:Ev→Option Fl):Option Fl:=match o with
 | some (.nx ρ)=>k ρ
 | o=>o
section
variable {X:Cx} {H H':Hp} {Q:VK} {QB:Bool→Hp→Prop} {QA:List V→Hp→Prop} {D:qS}
theorem Out.mono (e:Same H H'):∀ {o:Option (Rs Dv)},Out X H o Q→Out X H' o Q
 | none,h=>h
 | some (.exc _),h=>XW.mono h e
 | some (.ok _),h=>fun v H1 e1 r=>h v H1 (e.trans e1) r
theorem OutB.mono (e:Same H H'):∀ {o:Option (Rs Bool)},OutB X H o QB→OutB X H' o QB
 | none,h=>h
 | some (.exc _),h=>XW.mono h e
 | some (.ok _),h=>fun H1 e1=>h H1 (e.trans e1)
theorem OutA.mono (e:Same H H'):∀ {o:Option (Rs (List Dv))},OutA X H o QA→OutA X H' o QA
 | none,h=>h
 | some (.exc _),h=>XW.mono h e
 | some (.ok _),h=>fun v H1 e1 r=>h v H1 (e.trans e1) r
theorem OutS.mono (e:Same H H'):∀ {o:Option Fl},OutS X H o D→OutS X H' o D
 | none,h=>h
 | some (.exc _),h=>XW.mono h e
 | some (.rt _),h=>fun v H1 e1 r=>h v H1 (e.trans e1) r
 | some (.nx _),h=>fun v H1 e1 r=>h v H1 (e.trans e1) r
theorem Out.bind {o:Option (Rs Dv)} {k:Dv→Option (Rs Dv)} {P:VK} (h:Out X H (bnd o k) Q) (hp:∀ d v H',Same H H'→Rep X.K H' d v→Out X H' (k d) Q→P v H'):Out X H o P:=by
 match o,h with
 | some (.exc _),h=>exact h
 | some (.ok d),h=>exact fun v H1 e r=>hp d v H1 e r (Out.mono e h)
theorem Out.bindB {o:Option (Rs Dv)} {k:Dv→Option (Rs Bool)} {P:VK} (h:OutB X H (bnd o k) QB) (hp:∀ d v H',Same H H'→Rep X.K H' d v→OutB X H' (k d) QB→P v H'):Out X H o P:=by
 match o,h with
 | some (.exc _),h=>exact h
 | some (.ok d),h=>exact fun v H1 e r=>hp d v H1 e r (OutB.mono e h)
theorem Out.bindA {o:Option (Rs Dv)} {k:Dv→Option (Rs (List Dv))} {P:VK} (h:OutA X H (bnd o k) QA) (hp:∀ d v H',Same H H'→Rep X.K H' d v→OutA X H' (k d) QA→P v H'):Out X H o P:=by
 match o,h with
 | some (.exc _),h=>exact h
 | some (.ok d),h=>exact fun v H1 e r=>hp d v H1 e r (OutA.mono e h)
theorem Out.bindS {o:Option (Rs Dv)} {k:Dv→Option Fl} {P:VK} (h:OutS X H (fr o k) D) (hp:∀ d v H',Same H H'→Rep X.K H' d v→OutS X H' (k d) D→P v H'):Out X H o P:=by
 match o,h with
 | some (.exc _),h=>exact h
 | some (.ok d),h=>exact fun v H1 e r=>hp d v H1 e r (OutS.mono e h)
theorem OutB.bind {o:Option (Rs Bool)} {k:Bool→Option (Rs Dv)} {P:Bool→Hp→Prop} (h:Out X H (bnd o k) Q) (hp:∀ b H',Same H H'→Out X H' (k b) Q→P b H'):OutB X H o P:=by
 match o,h with
 | some (.exc _),h=>exact h
 | some (.ok d),h=>exact fun H1 e=>hp d H1 e (Out.mono e h)
theorem OutB.bindB {o:Option (Rs Bool)} {k:Bool→Option (Rs Bool)} {P:Bool→Hp→Prop} (h:OutB X H (bnd o k) QB) (hp:∀ b H',Same H H'→OutB X H' (k b) QB→P b H'):OutB X H o P:=by
 match o,h with
 | some (.exc _),h=>exact h
 | some (.ok d),h=>exact fun H1 e=>hp d H1 e (OutB.mono e h)
theorem OutB.bindS {o:Option (Rs Bool)} {k:Bool→Option Fl} {P:Bool→Hp→Prop} (h:OutS X H (fr o k) D) (hp:∀ b H',Same H H'→OutS X H' (k b) D→P b H'):OutB X H o P:=by
 match o,h with
 | some (.exc _),h=>exact h
 | some (.ok d),h=>exact fun H1 e=>hp d H1 e (OutS.mono e h)
theorem OutA.bind {o:Option (Rs (List Dv))} {k:List Dv→Option (Rs Dv)} {P:List V→Hp→Prop} (h:Out X H (bnd o k) Q) (hp:∀ ds vs H',Same H H'→Reps X.K H' ds vs→Out X H' (k ds) Q→P vs H'):OutA X H o P:=by
 match o,h with
 | some (.exc _),h=>exact h
 | some (.ok d),h=>exact fun v H1 e r=>hp d v H1 e r (Out.mono e h)
theorem OutA.bindA {o:Option (Rs (List Dv))} {k:List Dv→Option (Rs (List Dv))} {P:List V→Hp→Prop} (h:OutA X H (bnd o k) QA) (hp:∀ ds vs H',Same H H'→Reps X.K H' ds vs→OutA X H' (k ds) QA→P vs H'):OutA X H o P:=by
 match o,h with
 | some (.exc _),h=>exact h
 | some (.ok d),h=>exact fun v H1 e r=>hp d v H1 e r (OutA.mono e h)
end
abbrev FnE:=Ev→Option (Rs Dv)
abbrev FnB:=Ev→Option (Rs Bool)
abbrev FnA:=Ev→Option (Rs (List Dv))
abbrev FnS:=Ev→Option Fl
def tF (X:Cx) (f:FnE):TE:=fun σ H Q=>∃ ρ,Envs X.K H σ ρ∧Out X H (f ρ) Q
def tT (X:Cx) (f:FnB):TT:=fun σ H Q=>∃ ρ,Envs X.K H σ ρ∧OutB X H (f ρ) Q
def tA (X:Cx) (f:FnA):TA:=fun σ H Q=>∃ ρ,Envs X.K H σ ρ∧OutA X H (f ρ) Q
def tS (X:Cx) (f:FnS):TS:=fun D σ H=>∃ ρ,Envs X.K H σ ρ∧OutS X H (f ρ) D
structure FE (X:Cx) (e:D_) (f:FnE):Prop where
 h:PE X e (tF X f)
structure FT (X:Cx) (e:D_) (f:FnB):Prop where
 h:PT X e (tT X f)
structure FW (X:Cx) (e:D_) (f:FnB):Prop where
 h:PW X e (tT X f)
structure FA (X:Cx) (es:List D_) (f:FnA):Prop where
 h:PA X es (tA X f)
structure FS (X:Cx) (st:F_) (f:FnS):Prop where
 h:PS X st (tS X f)
structure FSs (X:Cx) (st:List F_) (f:FnS):Prop where
 h:PSs X st (tS X f)
section
variable {X:Cx} {a b c e:D_} {es:List D_} {fa fb fc:FnE} {pos:Pos}
theorem bR {t:TE} {f:FnE} (h:PE X e t) (w:∀ σ H Q ρ,Envs X.K H σ ρ→Out X H (f ρ) Q→t σ H Q):FE X e f :=
 ⟨fun f' s σ H Q I ⟨ρ,E,o⟩=>h f' s σ H Q I (w σ H Q ρ E o)⟩
theorem uM {t:TT} {f:FnB} (h:PT X e t) (w:∀ σ H Q ρ,Envs X.K H σ ρ→OutB X H (f ρ) Q→t σ H Q):FT X e f :=
 ⟨fun f' s σ H Q I ⟨ρ,E,o⟩=>h f' s σ H Q I (w σ H Q ρ E o)⟩
theorem yd {t:TT} {f:FnB} (h:PW X e t) (w:∀ σ H Q ρ,Envs X.K H σ ρ→OutB X H (f ρ) Q→t σ H Q):FW X e f :=
 ⟨fun wh f' s σ H Q I ⟨ρ,E,o⟩=>h wh f' s σ H Q I (w σ H Q ρ E o)⟩
theorem ou {st:F_} {t:TS} {f:FnS} (h:PS X st t) (w:∀ D σ H ρ,Envs X.K H σ ρ→OutS X H (f ρ) D→t D σ H):FS X st f :=
 ⟨fun f' s σ H D I ⟨ρ,E,o⟩=>h f' s σ H D I (w D σ H ρ E o)⟩
theorem tD {st:List F_} {t:TS} {f:FnS} (h:PSs X st t) (w:∀ D σ H ρ,Envs X.K H σ ρ→OutS X H (f ρ) D→t D σ H):FSs X st f :=
 ⟨fun f' s σ H D I ⟨ρ,E,o⟩=>h f' s σ H D I (w D σ H ρ E o)⟩
theorem FW.ft {f:FnB} (h:FW X e f):FT X e f:=⟨h.h _⟩
def ac (i:Nat):FnE:=fun ρ=>match ρ[i]? with
 | some (some d)=>some (.ok d)
 | _=>none
def fC (d:Dv):FnE:=fun _=>some (.ok d)
theorem ye (i:Nat) (h:PE X e (xg i)):FE X e (ac i):=bR h fun σ H Q ρ E o=>by
 unfold ac at o;split at o
 · rename_i d hd;obtain ⟨v,h1,h2⟩:=E.at' i d hd;exact ⟨v,h1,o v H (.refl H) h2⟩
 · exact o.elim
theorem glb {x:Str} (h:X.env.kindOf x=some .globalImplicit):Gl X x:=h
theorem BX (i:Nat) {x:Str} (hN:X.N[i]?=some x:=by kernel_rfl) (hv:X.env.scope.names.lookup x=some .local:=by kernel_rfl) (hd:(x == ("__debug__":Str))=c_:=by kernel_rfl) (hcd:(x == ("__classdict__":Str))=c_:=by kernel_rfl):FE X (.Name x pos) (ac i):=ye i (nK hN (.inl hv) hd hcd)
theorem BY (i:Nat) {x:Str} (hN:X.N[i]?=some x:=by kernel_rfl) (hv:X.env.scope.names.lookup x=some .cell:=by kernel_rfl) (hd:(x == ("__debug__":Str))=c_:=by kernel_rfl) (hcd:(x == ("__classdict__":Str))=c_:=by kernel_rfl):FE X (.Name x pos) (ac i):=ye i (nK hN (.inr (.inl hv)) hd hcd)
theorem xh {d:Dv} {v:V} (h:PE X e (tC v)) (r:∀ K H,Rep K H d v):FE X e (fC d):=bR h fun _ H _ _ _ o=>o v H (.refl H) (r X.K H)
theorem tE {i j}:FE X (.Constant (.int i) j pos) (fC (.int i)):=xh xz fun _ _=>rfl
theorem BZ {b j}:FE X (.Constant (.bool b) j pos) (fC (.bl b)):=xh Bx fun _ _=>rfl
theorem yf {j}:FE X (.Constant .none j pos) (fC .non):=xh xA fun _ _=>rfl
theorem yg {x j}:FE X (.Constant (.str x) j pos) (fC (.str x)):=xh xB fun _ _=>rfl
theorem uN {x:Str} {i:Int} {t:Tok} (hg:Gl X x) (hm:X.mg x=some (.int i t)) (hd:(x == ("__debug__":Str))=c_:=by kernel_rfl):FE X (.Name x pos) (fC (.int i)):=xh (kA (v:=.int i) hg hm ⟨t,rfl⟩ hd) fun _ _=>rfl
theorem uO {x:Str} {i:Str} {t:Tok} (hg:Gl X x) (hm:X.mg x=some (.str i t)) (hd:(x == ("__debug__":Str))=c_:=by kernel_rfl):FE X (.Name x pos) (fC (.str i)):=xh (kA (v:=.str i) hg hm ⟨t,rfl⟩ hd) fun _ _=>rfl
def f2 (g:Dv→Dv→Option (Rs Dv)) (fa fb:FnE):FnE:=fun ρ=>bnd (fa ρ) fun x=>bnd (fb ρ) fun y=>g x y
def GOp (X:Cx) (r:R2) (g:Dv→Dv→Option (Rs Dv)):Prop:=∀ dx dy x y H Q,Rep X.K H dx x→Rep X.K H dy y→Out X H (g dx dy) Q→r x y H Q
theorem two {r:R2} {g:Dv→Dv→Option (Rs Dv)} (hg:GOp X r g) {σ:L2.St} {H:Hp} {Q:VK} {ρ:Ev} (E:Envs X.K H σ ρ) (o:Out X H (f2 g fa fb ρ) Q):tOp r (tF X fa) (tF X fb) σ H Q :=
 ⟨ρ,E,Out.bind o fun dx x H1 e1 rx o1=>⟨ρ,E.mono e1,Out.bind o1 fun dy y H2 e2 ry o2=>hg dx dy x y H2 Q (Rep.mono e2 dx x rx) ry o2⟩⟩
theorem kK {op:Operator} {r:R2} {g:Dv→Dv→Option (Rs Dv)} (ho:OpR X (GE op) r) (hg:GOp X r g) (ha:FE X a fa) (hb:FE X b fb):FE X (.BinOp a op b pos) (f2 g fa fb) :=
 bR (xM ho ha.h hb.h) fun _ _ _ _ E o=>two hg E o
theorem jJ {op:CmpOp} {r:R2} {g:Dv→Dv→Option (Rs Dv)} (ho:OpR X (Fp op) r) (hg:GOp X r g) (ha:FE X a fa) (hb:FE X b fb) (hm:Fk op b=c_):FE X (.Compare a [op] [b] pos) (f2 g fa fb) :=
 bR (uF ho ha.h hb.h hm) fun _ _ _ _ E o=>two hg E o
def toB:Dv→Option (Rs Bool)
 | .bl b=>some (.ok b)
 | _=>none
def fB (f:FnE):FnB:=fun ρ=>bnd (f ρ) toB
theorem lI {H:Hp} {d:Dv} {v:V} {QB:Bool→Hp→Prop} (r:Rep X.K H d v) (o:OutB X H (toB d) QB):∃ k,v=.bl k∧QB k H:=by
 cases d with
 | bl b=>exact ⟨b,r,o H (.refl H)⟩
 | _=>exact o.elim
theorem fE {op:CmpOp} {r:R2} {g:Dv→Dv→Option (Rs Dv)} (ho:OpR X (Fp op) r) (hg:GOp X r g) (ha:FE X a fa) (hb:FE X b fb) (hm:Fk op b=c_):FT X (.Compare a [op] [b] pos) (fB (f2 g fa fb)) :=
 uM (uG ho ha.h hb.h hm) fun σ H Q ρ E o=>by
  show tOp r (tF X fa) (tF X fb) σ H _;refine two hg E ?_;exact Out.bindB o fun d v H' e r o'=>lI r o'
theorem yh (ha:FE X a fa) (he:∀ whole,isTrue a X.env whole=(do let v ← whole; standAt a.pos; Iw [v] (truthy v)):=by intro _; kernel_rfl):FT X a (fB fa) :=
 uM (xD ha.h he) fun σ H Q ρ E o=>⟨ρ,E,Out.bindB o fun d v H' e r o'=>lI r o'⟩
def kz (f g:FnB):FnB:=fun ρ=>bnd (f ρ) fun k=>if k then g ρ else some (.ok c_)
def bOr (f g:FnB):FnB:=fun ρ=>bnd (f ρ) fun k=>if k then some (.ok b_) else g ρ
def dL (f:FnB):FnB:=fun ρ=>bnd (f ρ) fun k=>some (.ok (!k))
variable {ga gb:FnB} {rest:List D_}
theorem uP (ha:FT X a ga):FW X (.BoolOp .And [a] pos) ga:=⟨uA ha.h⟩
theorem yi (ha:FT X a ga):FW X (.BoolOp .Or [a] pos) ga:=⟨xE ha.h⟩
theorem tG (ha:FT X a ga) (hb:FW X (.BoolOp .And (b :: rest) pos) gb):FW X (.BoolOp .And (a :: b :: rest) pos) (kz ga gb) :=
 yd (xF ha.h hb.h) fun σ H Q ρ E o=>⟨ρ,E,OutB.bindB o fun k H1 e o'=>by
  cases k with
  | true=>exact tz ⟨ρ,E.mono e,o'⟩
  | false=>exact tw (o' H1 (.refl H1))⟩
theorem yj (ha:FT X a ga) (hb:FW X (.BoolOp .Or (b :: rest) pos) gb):FW X (.BoolOp .Or (a :: b :: rest) pos) (bOr ga gb) :=
 yd (By ha.h hb.h) fun σ H Q ρ E o=>⟨ρ,E,OutB.bindB o fun k H1 e o'=>by
  cases k with
  | true=>exact tz (o' H1 (.refl H1))
  | false=>exact tw ⟨ρ,E.mono e,o'⟩⟩
theorem yk (ha:FT X a ga):FT X (.UnaryOp .Not a pos) (dL ga) :=
 uM (xG ha.h) fun σ H Q ρ E o=>⟨ρ,E,OutB.bindB o fun k H1 e o'=>o' H1 (.refl H1)⟩
def ip (f g:FnE):FnE:=fun ρ=>bnd (f ρ) fun x=>bnd (toB x) fun k=>if k then g ρ else some (.ok (.bl c_))
def vOr (f g:FnE):FnE:=fun ρ=>bnd (f ρ) fun x=>bnd (toB x) fun k=>if k then some (.ok (.bl b_)) else g ρ
def mP (f:FnE):FnE:=fun ρ=>bnd (f ρ) fun x=>bnd (toB x) fun k=>some (.ok (.bl (!k)))
theorem kL {H:Hp} {d:Dv} {v:V} {k:Bool→Option (Rs Dv)} {Q:VK} (r:Rep X.K H d v) (o:Out X H (bnd (toB d) k) Q):∃ b,v=.bl b∧Out X H (k b) Q:=by
 cases d with
 | bl b=>exact ⟨b,r,o⟩
 | _=>exact o.elim
theorem ym {op} (ha:FE X a fa):FE X (.BoolOp op [a] pos) fa:=⟨xH ha.h⟩
theorem yn (ha:FE X a fa) (hb:FE X (.BoolOp .And (b :: rest) pos) fb):FE X (.BoolOp .And (a :: b :: rest) pos) (ip fa fb) :=
 bR (xI ha.h hb.h) fun σ H Q ρ E o=>⟨ρ,E,Out.bind o fun d v H1 e r o'=>by
  obtain ⟨k,rfl,o2⟩:=kL r o';refine ⟨k,rfl,?_⟩;cases k with
  | true=>exact tz ⟨ρ,E.mono e,o2⟩
  | false=>exact tw (o2 (.bl c_) H1 (.refl H1) rfl)⟩
theorem B0 (ha:FE X a fa) (hb:FE X (.BoolOp .Or (b :: rest) pos) fb):FE X (.BoolOp .Or (a :: b :: rest) pos) (vOr fa fb) :=
 bR (BB ha.h hb.h) fun σ H Q ρ E o=>⟨ρ,E,Out.bind o fun d v H1 e r o'=>by
  obtain ⟨k,rfl,o2⟩:=kL r o';refine ⟨k,rfl,?_⟩;cases k with
  | true=>exact tz (o2 (.bl b_) H1 (.refl H1) rfl)
  | false=>exact tw ⟨ρ,E.mono e,o2⟩⟩
theorem yo (ha:FE X a fa):FE X (.UnaryOp .Not a pos) (mP fa) :=
 bR (xJ ha.h) fun σ H Q ρ E o=>⟨ρ,E,Out.bind o fun d v H1 e r o'=>by
  obtain ⟨k,rfl,o2⟩:=kL r o';exact ⟨k,rfl,o2 (.bl (!k)) H1 (.refl H1) rfl⟩⟩
def fIf (c:FnB) (f g:FnE):FnE:=fun ρ=>bnd (c ρ) fun k=>if k then f ρ else g ρ
theorem B1 (hc:FT X c ga) (ha:FE X a fa) (hb:FE X b fb):FE X (.IfExp c a b pos) (fIf ga fa fb) :=
 bR (qT hc.h ha.h hb.h) fun σ H Q ρ E o=>⟨ρ,E,OutB.bind o fun k H1 e o'=>by
  cases k with
  | true=>exact tz ⟨ρ,E.mono e,o'⟩
  | false=>exact tw ⟨ρ,E.mono e,o'⟩⟩
def ag:FnA:=fun _=>some (.ok [])
def aa (f:FnE) (g:FnA):FnA:=fun ρ=>bnd (f ρ) fun x=>bnd (g ρ) fun xs=>some (.ok (x :: xs))
theorem yp {t:TA} {f:FnA} (h:PA X es t) (w:∀ σ H Q ρ,Envs X.K H σ ρ→OutA X H (f ρ) Q→t σ H Q):FA X es f :=
 ⟨fun pos f' s σ H Q I ⟨ρ,E,o⟩=>h pos f' s σ H Q I (w σ H Q ρ E o)⟩
theorem ow:FA X [] ag:=yp lF fun _ H _ _ _ o=>o [] H (.refl H) rfl
theorem kM {g:FnA} (ha:FE X e fa) (hr:FA X es g) (hs:j_ (e :: es) X.env=(c_,eval e X.env) :: j_ es X.env:=by kernel_rfl):FA X (e :: es) (aa fa g) :=
 yp (eT ha.h hr.h hs) fun σ H Q ρ E o=>⟨ρ,E,Out.bindA o fun d v H1 e r o1=>⟨ρ,E.mono e,OutA.bindA o1 fun ds vs H2 e2 rs o2=>o2 (v :: vs) H2 (.refl H2) ⟨v,vs,rfl,Rep.mono e2 d v r,rs⟩⟩⟩
def bD (g:FnA):FnE:=fun ρ=>bnd (g ρ) fun ds=>if ds.length≤100000 then some (.ok (.lst ds)) else none
def df (g:FnA):FnE:=fun ρ=>bnd (g ρ) fun ds=>if ds.length≤100000 then some (.ok (.tup ds)) else none
theorem br {n:Nat} (h:n≤100000):n≤sizeLine:=EW h (by rw [HK]; decide)
theorem yq {g:FnA} (h:FA X es g):FE X (.List es pos) (bD g) :=
 bR (tq h.h) fun σ H Q ρ E o=>⟨ρ,E,OutA.bind o fun ds vs H1 e rs o1=>by
  split at o1
  · rename_i hl;refine ⟨by rw [rs.length]; exact br hl,fun p hp=>o1 (.ref p) _ (aA hp _) ⟨p,vs,rfl,ar,Reps.mono (aA hp _) _ _ rs⟩⟩
  · exact o1.elim⟩
theorem yr {g:FnA} {k} (h:FA X es g):FE X (.Tuple es k pos) (df g) :=
 bR (xS h.h) fun σ H Q ρ E o=>⟨ρ,E,OutA.bind o fun ds vs H1 e rs o1=>by
  split at o1
  · rename_i hl;refine ⟨by rw [rs.length]; exact br hl,fun p hp=>o1 (.ref p) _ (aA hp _) ⟨p,vs,rfl,ar,Reps.mono (aA hp _) _ _ rs⟩⟩
  · exact o1.elim⟩
variable {st:F_} {sts:List F_} {f g:FnS}
theorem uQ:FSs X [] (fun ρ=>some (.nx ρ)):=tD nN fun D σ H ρ E o=>o σ H (.refl H) E
def aG (f g:FnS):FnS:=fun ρ=>sq (f ρ) g
theorem q8 (h1:FS X st f) (h2:FSs X sts g):FSs X (st :: sts) (aG f g) :=
 tD (gF h1.h h2.h) fun D σ H ρ E o=>⟨ρ,E,by
  unfold aG at o
  match hf:f ρ with
  | none=>rw [hf] at o; exact o.elim
  | some (.exc c)=>rw [hf] at o; exact o
  | some (.rt d)=>rw [hf] at o; exact o
  | some (.nx ρ')=>rw [hf] at o; exact fun σ' H' e E'=>⟨ρ',E',OutS.mono e o⟩⟩
theorem oy (h1:FS X st f):FSs X [st] f:=⟨nO h1.h⟩
def bb (f:FnE):FnS:=fun ρ=>fr (f ρ) fun d=>some (.rt d)
theorem tH (he:FE X e fa):FS X (.Return (some e) pos) (bb fa) :=
 ou (tf he.h) fun D σ H ρ E o=>⟨ρ,E,Out.bindS o fun d v H1 e r o1=>o1 v H1 (.refl H1) r⟩
def kN:FnS:=fun _=>some (.rt .non)
def gy (f:FnE):FnS:=fun ρ=>fr (f ρ) fun _=>some (.nx ρ)
theorem uR (he:FE X e fa) (hs:Gr e none pos.line X.env=pure c_:=by kernel_rfl):FS X (.Expr e pos) (gy fa) :=
 ou (nP he.h hs) fun D σ H ρ E o=>⟨ρ,E,Out.bindS o fun d v H1 e r o1=>o1 σ H1 (.refl H1) (E.mono e)⟩
def bn (i:Nat) (f:FnE):FnS:=fun ρ=>fr (f ρ) fun d=>some (.nx (ρ.set i (some d)))
theorem yt (i:Nat) {x:Str} {pos':Pos} (hN:X.N.Nodup) (hi:X.N[i]?=some x) (hx:Loc X.env.scope x) (he:FE X e fa) (hs:Gr e (some (.Name x pos')) pos.line X.env=pure c_:=by kernel_rfl) (hf:X.fn x=b_∨X.env.scope.names.lookup x=some .local:=by first | exact .inl rfl | exact .inr rfl | assumption) :
 FS X (.Assign [.Name x pos'] e pos) (bn i fa) :=
 ou (lC hN hi hx he.h hs hf) fun D σ H ρ E o=>⟨ρ,E,Out.bindS o fun d v H1 e r o1=>o1 _ H1 (.refl H1) ((E.mono e).set r)⟩
def bZ (c:FnB) (f g:FnS):FnS:=fun ρ=>fr (c ρ) fun k=>if k then f ρ else g ρ
theorem B2 {as bs:List F_} (hc:FT X c ga) (ha:FSs X as f) (hb:FSs X bs g):FS X (.If c as bs pos) (bZ ga f g) :=
 ou (uB hc.h ha.h hb.h) fun D σ H ρ E o=>⟨ρ,E,OutB.bindS o fun k H1 e o1=>by
  cases k with
  | true=>exact tz ⟨ρ,E.mono e,o1⟩
  | false=>exact tw ⟨ρ,E.mono e,o1⟩⟩
def gU:FnS:=fun _=>none
end
def Its (z:Str):It:=⟨fun i _=>i < z.cps.size,fun i H x H'=>H'=H∧∃ c,z.cps[i]?=some c∧x=.str ⟨#[c]⟩,fun i _=>i=z.cps.size⟩
theorem jK {prog:pi} {w:EO} {A:EQ} (hh:A.handled=none) (I:k_) (x:Str) (t:Tok) {ty:String} (hty:ty="str_ascii_iterator"∨ty="str_iterator") :
 Walks prog w A I [I] [I] x.cps.size (SignAt x) (fun i h=>h.IsStrIter I ty x t i):=by
 rcases hty with rfl | rfl
 · exact Walks.strAscii hh I x t
 · exact Walks.strWide hh I x t
theorem q9 {P:pi} {w:EO} {K:ck} {tg:D_} (z:Str) (t:Tok) (it:k_) {ty:String} (hty:ty="str_ascii_iterator"∨ty="str_iterator"):uC P w K tg (Its z) [it] it (fun i h=>h.IsStrIter it ty z t i) where
 mem:=by simp
 obj:=fun i h st b hb=>by
  have e:b=it:=by simpa using hb
  subst e;obtain ⟨o,e,c,d⟩:=st;exact ⟨o,e,fun v z=>by rw [d] at z; cases z⟩
 keep:=fun i h h' st k=>let ⟨o,ho,r⟩:=st; ⟨o,k it (by simp) o ho,r⟩
 item:=by
  intro X hP hw hK hc i f' s σ H E I hf st hg;subst hP hw hK;obtain ⟨f0,f1,f2,f3,f4,f5⟩:=hf it (by simp);have W:=jK (prog:=X.prog) (w:=X.w) (I.ok.hd hc) it z t hty;refine W.item i s _ _ hg st fun v h' tk hv st' kk=>?_;obtain ⟨c,u,hc',rfl⟩:=hv;have I1:Inv X f' σ H { s with heap:=h',toks:=tk }:=I.turned (fun b o hb e=>kk b o (by simpa using hb) e) f0 f1 f3 f4 f5;obtain ⟨o,e,c',d⟩:=id st';refine ⟨_,rfl,qU (s:={ s with heap:=h',toks:=tk }) e c' d (by rcases hty with rfl | rfl <;> decide) ⟨.str ⟨#[c]⟩,H,I1,⟨u,rfl⟩,⟨rfl,c,hc',rfl⟩,st',fun b hb=>(hf b hb).1⟩⟩
 done:=by
  intro X hP hw hK hc i f' s σ H E I hf st hg;subst hP hw hK;obtain ⟨f0,f1,f2,f3,f4,f5⟩:=hf it (by simp);have W:=jK (prog:=X.prog) (w:=X.w) (I.ok.hd hc) it z t hty;have hg':i=z.cps.size:=hg;subst hg';exact W.done s _ _ st fun h' tk kk=>⟨rfl,I.turned (fun b o hb e=>kk b o (by simpa using hb) e) f0 f1 f3 f4 f5⟩
 self:=fun A i s Q E st h=>by
  rcases hty with rfl | rfl
  · exact wpAny_pyIter_striter_ascii st h
  · exact wpAny_pyIter_striter_wide st h
structure Wk (K:ck) (J:It) (ds:List Dv) (H0:Hp):Prop where
 go:∀ i H,Same H0 H→i < ds.length→J.go i H
 stop:∀ H,Same H0 H→J.stop ds.length H
 yld:∀ i H x H',Same H0 H→i < ds.length→J.yld i H x H'→H'=H∧∃ d,ds[i]?=some d∧Rep K H d x
def OutI (X:Cx) (H:Hp) (o:Option (Rs (List Dv))) (R:It→Hp→Prop):Prop:=match o with
 | none=>False
 | some (.exc c)=>XW X c H
 | some (.ok ds)=>∀ J H',Same H H'→Wk X.K J ds H'→R J H'
structure FI (X:Cx) (tg iter:D_) (f:FnA):Prop where
 h:PI X tg iter fun σ H R=>∃ ρ,Envs X.K H σ ρ∧OutI X H (f ρ) R
theorem OutI.mono {X:Cx} {H H':Hp} {R:It→Hp→Prop} (e:Same H H'):∀ {o:Option (Rs (List Dv))},OutI X H o R→OutI X H' o R
 | none,h=>h
 | some (.exc _),h=>XW.mono h e
 | some (.ok _),h=>fun v H1 e1 r=>h v H1 (e.trans e1) r
def signs (z:Str):List Dv:=z.cps.toList.map fun c=>.str ⟨#[c]⟩
def items:Dv→Option (Rs (List Dv))
 | .lst ds=>some (.ok ds)
 | .tup ds=>some (.ok ds)
 | .str z=>some (.ok (signs z))
 | _=>none
def cp (f:FnE):FnA:=fun ρ=>bnd (f ρ) items
theorem kO {K:ck} {H:Hp} {a:k_} {xs:List V} {ds:List Dv} (h:H a=some (.lst xs)) (r:Reps K H ds xs):Wk K (Itl K a) ds H where
 go:=fun i H' e hi=>by
  have hx:i < xs.length:=by rw [r.length]; exact hi
  exact ⟨xs,xs[i],SqL.of (e _ _ h),by simp [hx]⟩
 stop:=fun H' e=>⟨xs,SqL.of (e _ _ h),by rw [r.length]; exact p_ _⟩
 yld:=fun i H' x H2 e hi y=>by
  obtain ⟨e2,y⟩:=y;obtain ⟨d,h1,h2⟩:=Reps.get (Reps.mono e _ _ r) (y xs (SqL.of (e _ _ h)));exact ⟨e2,d,h1,h2⟩
theorem yu {K:ck} {H:Hp} {a:k_} {xs:List V} {ds:List Dv} (h:H a=some (.tup xs)) (r:Reps K H ds xs):Wk K (Itt K a) ds H where
 go:=fun i H' e hi=>by
  have hx:i < xs.length:=by rw [r.length]; exact hi
  exact ⟨xs,xs[i],SqT.of (e _ _ h),by simp [hx]⟩
 stop:=fun H' e=>⟨xs,SqT.of (e _ _ h),by rw [r.length]; exact p_ _⟩
 yld:=fun i H' x H2 e hi y=>by
  obtain ⟨e2,y⟩:=y;obtain ⟨d,h1,h2⟩:=Reps.get (Reps.mono e _ _ r) (y xs (SqT.of (e _ _ h)));exact ⟨e2,d,h1,h2⟩
theorem yw {K:ck} {H:Hp} {z:Str}:Wk K (Its z) (signs z) H where
 go:=fun i H' e hi=>by show i < z.cps.size; simpa [signs] using hi
 stop:=fun H' e=>by show (signs z).length=z.cps.size; simp [signs]
 yld:=fun i H' x H2 e hi y=>by
  obtain ⟨e2,c,hc,rfl⟩:=y;refine ⟨e2,.str ⟨#[c]⟩,?_,rfl⟩;have hc':z.cps.toList[i]?=some c:=by simpa using hc
  rw [signs,Fh,hc'] <;> rfl
def rng (lo:Int):Nat→List Dv
 | 0=>[]
 | n + 1=>.int lo :: rng (lo + 1) n
theorem eC:∀ (n:Nat) (lo:Int),(rng lo n).length=n
 | 0,_=>rfl
 | n + 1,lo=>by show (rng (lo + 1) n).length + 1=n + 1; rw [eC]
theorem oz:∀ (n:Nat) (lo:Int) (i:Nat),i < n→(rng lo n)[i]?=some (.int (lo + i))
 | 0,_,_,h=>by omega
 | n + 1,lo,0,_=>by simp [rng]
 | n + 1,lo,i + 1,h=>by
  have q:=oz n (lo + 1) i (by omega);show (Dv.int lo :: rng (lo + 1) n)[i + 1]?=_;rw [List.getElem?_cons_succ,q];congr 2;omega
theorem lJ {K:ck} {H:Hp} {lo:Int} {n:Nat}:Wk K (Itr lo n) (rng lo n) H where
 go:=fun i H' e hi=>by rw [eC] at hi; exact hi
 stop:=fun H' e=>by show n≤(rng lo n).length; rw [eC]; exact p_ _
 yld:=fun i H' x H2 e hi y=>by
  obtain ⟨e2,rfl⟩:=y;rw [eC] at hi;exact ⟨e2,_,oz n lo i hi,rfl⟩
section
variable {X:Cx} {tg l a b:D_} {fl:FnE} {pos p:Pos}
theorem yx (hl:FE X l fl):FI X tg l (cp fl):=by
 constructor;intro f' s σ H R I h;obtain ⟨ρ,E,o⟩:=h;have key:Out X H (fl ρ) fun x H1=>∃ d,Rep X.K H1 d x∧OutI X H1 (items d) R:=by
  unfold cp at o
  match hf:fl ρ,o with
  | some (.exc c),o=>exact o
  | some (.ok d),o=>exact fun v H1 e r=>⟨d,r,OutI.mono e o⟩
  | none,o=>exact o
 refine thn (hl.h f' s σ H _ I ⟨ρ,E,key⟩) fun v s1 ⟨x,H1,I1,r1,d,rd,q⟩=>?_;have fin:∀ (o:Obj) (tn:Nat→Fg→Prop) (J:It) (ds:List Dv),uC X.prog X.w X.K tg J [s1.heap.objs.size] s1.heap.objs.size tn→tn 0 (s1.heap.push o)→Wk X.K J ds H1→(∀ J H',Same H1 H'→Wk X.K J ds H'→R J H') →
  PIE X f' σ tg R (.ref s1.heap.objs.size) { s1 with heap:=s1.heap.push o }:=fun o tn J ds T t0 w q=>by
  refine ⟨s1.heap.objs.size,[s1.heap.objs.size],tn,J,H1,rfl,I1.kept (t':=s1.toks) fun b o e=>on _ e,T,t0,fun b hb=>?_,q J H1 (.refl H1) w⟩;have e:b=s1.heap.objs.size:=by simpa using hb
  subst e;exact I1.fpOk (p_ _) (I1.hok.fresh (p_ _))
 cases d with
 | lst ds =>
  obtain ⟨a,xs,rfl,h1,h2⟩:=rd.lstE;cases r1;obtain ⟨its,rv,p,hz⟩:=I1.list (SqL.of h1);exact HU p.isList (fin _ _ (Itl X.K a) ds (jz a _) ⟨_,EY _ rfl,rfl,rfl⟩ (kO h1 h2) q)
 | tup ds =>
  obtain ⟨a,xs,rfl,h1,h2⟩:=rd.tupE;cases r1;obtain ⟨its,rv,p,hz⟩:=I1.tuple (SqT.of h1);exact wpAny_pyIter_tuple (show s1.heap.IsTuple a its.toArray from p) (fin _ _ (Itt X.K a) ds (mJ a _) ⟨_,EY _ rfl,rfl,rfl⟩ (yu h1 h2) q)
 | str z =>
  cases (show x=.str z from rd);obtain ⟨t,rfl⟩:=r1;have hty:Mi z="str_ascii_iterator"∨Mi z="str_iterator":=by
   unfold Mi;split
   · exact .inl rfl
   · exact .inr rfl
  exact wpAny_pyIter_strU (fin _ _ (Its z) (signs z) (q9 z t _ hty) ⟨_,EY _ rfl,rfl,rfl⟩ yw q)
 | _=>exact q.elim
def gz:List Dv→Option (Rs (List Dv))
 | [.int j]=>if -(2 ^ 62)≤j∧j < 2 ^ 62 then some (.ok (rng 0 j.toNat)) else none
 | _=>none
def rf:List Dv→Option (Rs (List Dv))
 | [.int i,.int j]=>if -(2 ^ 62)≤i∧i < 2 ^ 62∧-(2 ^ 62)≤j∧j < 2 ^ 62 then some (.ok (rng i (j - i).toNat)) else none
 | _=>none
theorem iC {H:Hp} {R:It→Hp→Prop} {o:Option (Rs (List Dv))} {k:List Dv→Option (Rs (List Dv))} {P:List V→Hp→Prop} (h:OutI X H (bnd o k) R) (hp:∀ ds vs H',Same H H'→Reps X.K H' ds vs→OutI X H' (k ds) R→P vs H'):OutA X H o P:=by
 match o,h with
 | some (.exc _),h=>exact h
 | some (.ok d),h=>exact fun v H1 e r=>hp d v H1 e r (OutI.mono e h)
theorem oA {ga:FnA} (hg:Gl X "range") (hm:X.mg "range"=none) (ha:FA X [a] ga) (hs:j_ [a] X.env=[(c_,eval a X.env)]:=by kernel_rfl):FI X tg (.Call (.Name "range" p) [a] [] pos) (fun ρ=>bnd (ga ρ) gz):=by
 constructor;intro f' s σ H R I h;obtain ⟨ρ,E,o⟩:=h;refine nU hg hm ha.h hs f' s σ H R I ⟨ρ,E,iC o fun ds vs H' e rs o1=>?_⟩;unfold gz at o1;split at o1
 · rename_i j;split at o1
   · rename_i hj;obtain ⟨v,us,rfl,r,t⟩:∃ v us,vs=v :: us∧Rep X.K H' (.int j) v∧Reps X.K H' [] us:=rs;cases (show us=[] from t);cases (show v=.int j from r);exact ⟨j,rfl,hj.1,hj.2,o1 _ H' (.refl H') lJ⟩
   · exact o1.elim
 · exact o1.elim
theorem oD {ga:FnA} (hg:Gl X "range") (hm:X.mg "range"=none) (ha:FA X [a,b] ga) (hs:j_ [a,b] X.env=[(c_,eval a X.env),(c_,eval b X.env)]:=by kernel_rfl) (hs2:j_ [b] X.env=[(c_,eval b X.env)]:=by kernel_rfl) :
 FI X tg (.Call (.Name "range" p) [a,b] [] pos) (fun ρ=>bnd (ga ρ) rf):=by
 constructor;intro f' s σ H R I h;obtain ⟨ρ,E,o⟩:=h;refine nV hg hm ha.h hs hs2 f' s σ H R I ⟨ρ,E,iC o fun ds vs H' e rs o1=>?_⟩;unfold rf at o1;split at o1
 · rename_i i j;split at o1
   · rename_i hj;obtain ⟨v,us,rfl,r,t⟩:∃ v us,vs=v :: us∧Rep X.K H' (.int i) v∧Reps X.K H' [.int j] us:=rs;obtain ⟨v2,us2,rfl,r2,t2⟩:∃ v us',us=v :: us'∧Rep X.K H' (.int j) v∧Reps X.K H' [] us':=t;cases (show us2=[] from t2);cases (show v=.int i from r);cases (show v2=.int j from r2);exact ⟨i,j,rfl,hj,o1 _ H' (.refl H') lJ⟩
   · exact o1.elim
 · exact o1.elim
end
def gW (i:Nat) (js:List Nat) (body:FnS):List Dv→Ev→Option Fl
 | [],ρ=>some (.nx (fgt js ρ))
 | d :: ds,ρ=>match body ((fgt js ρ).set i (some d)) with
  | some (.nx ρ')=>gW i js body ds ρ'
  | o=>o
def jL (i:Nat) (js:List Nat) (src:FnA) (body:FnS):FnS:=fun ρ=>fr (src ρ) fun ds=>gW i js body ds ρ
theorem fF {α:Type} {ds:List α} {i:Nat} {d:α} (h:ds[i]?=some d):ds.drop i=d :: ds.drop (i + 1):=by
 obtain ⟨hi,e⟩:=E_.mp h;rw [Jm hi,e]
theorem yy {X:Cx} {tg iter:D_} {body:List F_} {pos:Pos} {src:FnA} {fb:FnS} (i:Nat) (js:List Nat) (hp:IV (A_ X.prog X.w) X.A X.env X.xe) (hc:X.calm=b_) (hi:FI X tg iter src) (hg:PG X tg (nQ i)) (hb:FSs X body fb)
 (hs:∀ x,Ft iter X.env x=pure x:=by intro _; kernel_rfl):FS X (.For tg iter body [] pos) (jL i js src fb):=by
 refine ou (nW hp hc hi.h hg hb.h hs) fun D σ H ρ E o=>⟨ρ,E,?_⟩;unfold jL at o
 match hf:src ρ,o with
 | none,o=>exact o
 | some (.exc c),o=>exact o
 | some (.ok ds),o =>
  intro J H1 e1 wk;have o1:OutS X H1 (gW i js fb ds ρ) D:=OutS.mono e1 o;refine ⟨fun n m σ' H'=>m=ds.length - n∧n≤ds.length∧Same H1 H'∧∃ ρ',Envs X.K H' σ' ρ'∧OutS X H' (gW i js fb (ds.drop n) ρ') D,⟨ds.length,by simp,F7 _,.refl H1,ρ,E.mono e1,by simpa using o1⟩,?_⟩;rintro n m σ' H' ⟨rfl,hn,e2,ρ',E',o'⟩;by_cases hlt:n < ds.length
  · refine .inr ⟨wk.go n H' e2 hlt,fun σ2 H2=>Same H1 H2∧∃ ρ2,Envs X.K H2 σ2 ρ2∧OutS X H2 (gW i js fb (ds.drop (n + 1)) ρ2) D,fun σ2 H2 ⟨e3,ρ2,E2,o2⟩=>⟨ds.length - (n + 1),by omega,rfl,hlt,e3,ρ2,E2,o2⟩,fun x H2 y=>?_⟩;obtain ⟨rfl,d,hd,rd⟩:=wk.yld n H' x H2 e2 hlt y;rw [fF hd] at o';show tS X fb _ _ _;refine ⟨(fgt js ρ').set i (some d),(Envs.fgt js E').set rd,?_⟩;unfold gW at o'
    match hb':fb ((fgt js ρ').set i (some d)) with
    | none=>rw [hb'] at o'; exact o'
    | some (.exc c)=>rw [hb'] at o'; exact o'
    | some (.rt r)=>rw [hb'] at o'; exact o'
    | some (.nx ρ2)=>rw [hb'] at o'; exact fun σ2 H3 e3 E3=>⟨e2.trans e3,ρ2,E3,OutS.mono e3 o'⟩
  · have hn':n=ds.length:=by omega
    subst hn';rw [Iv] at o';exact .inl ⟨wk.stop H' e2,o' σ' H' (.refl H') (Envs.fgt js E')⟩
def spF (K:ck) (F:List Dv→Option (Rs Dv)) (n:Nat):Sp:=fun vs H Q _=>∃ ds,Reps K H ds vs∧ds.length=n∧match F ds with
 | some (.ok d)=>∀ v H',Same H H'→Rep K H' d v→Q v H'
 | _=>False
def aj (F:List Dv→Option (Rs Dv)) (n:Nat) (g:FnA):FnE:=fun ρ=>bnd (g ρ) fun ds=>if ds.length=n then (match F ds with | some (.ok d)=>some (.ok d) | _=>none) else none
section
variable {X:Cx} {k n:Nat} {f:k_} {fd:F3} {ps:List Str} {x:Str} {p pos:Pos} {e:D_} {es:List D_} {F:List Dv→Option (Rs Dv)} {g:FnA}
theorem uS (G:FnOk X.prog X.w X.K X.mg X.base CX0 k f fd ps (spF X.K F n)) (hr:Room k X.A) (hg:Gl X x) (hm:X.mg x=some (.ref f)) (hk:Gx X.K (.ref f)=b_) (hb:Binds X.K fd ps [])
 (ha:FA X (e :: es) g) (hdb:(x == ("__debug__":Str))=c_:=by kernel_rfl) (he:j_ (e :: es) X.env=(c_,eval e X.env) :: j_ es X.env:=by kernel_rfl) (hpl:(FV pos (j_ es X.env)).any (·.1)=c_:=by kernel_rfl) :
 FE X (.Call (.Name x p) (e :: es) [] pos) (aj F n g) :=
 bR (kH G hr hg hm hk hb .nil BU ha.h hdb he hpl) fun σ H Q ρ E o=>⟨ρ,E,OutA.bind o fun ds vs H' e rs o1=>by
  show spF X.K F n (vs ++ []) H' Q E0;rw [HF];split at o1
  · rename_i hl;refine ⟨ds,rs,hl,?_⟩
    match hF:F ds with
    | some (.ok d)=>rw [hF] at o1; exact o1
    | some (.exc c)=>rw [hF] at o1; exact o1
    | none=>rw [hF] at o1; exact o1
  · exact o1.elim⟩
def Has (P:pi) (w:EO) (K:ck) (mg:Str→Option d_) (base:Fg) (x:Str) (k:Nat) (ps:List Str) (F:List Dv→Option (Rs Dv)):Prop :=
 ∃ f fd,FnOk P w K mg base CX0 k f fd ps (spF K F ps.length)∧mg x=some (.ref f)∧Gx K (.ref f)=b_∧Binds K fd ps []
theorem rh {k':Nat} (k:Nat) (ps:List Str) (F:List Dv→Option (Rs Dv)) (h:Has X.prog X.w X.K X.mg X.base x k ps F) (hr:Room k' X.A) (hk:k≤k') (hg:Gl X x) (ha:FA X (e :: es) g) (hn:n=ps.length:=by kernel_rfl) (hdb:(x == ("__debug__":Str))=c_:=by kernel_rfl)
 (he:j_ (e :: es) X.env=(c_,eval e X.env) :: j_ es X.env:=by kernel_rfl) (hpl:(FV pos (j_ es X.env)).any (·.1)=c_:=by kernel_rfl) :
 FE X (.Call (.Name x p) (e :: es) [] pos) (aj F n g):=by
 subst hn;obtain ⟨f,fd,G,hm,hkp,hb⟩:=h;exact uS (G.mono hk) hr hg hm hkp hb ha hdb he hpl
def c8 (m:Nat) (fb:FnS):List Dv→Option (Rs Dv):=fun ds=>match fb (ds.map some ++ E6 (m - ds.length) none) with
 | some (.nx _)=>some (.ok .non)
 | some (.rt d)=>some (.ok d)
 | _=>none
theorem iD {K:ck} {H:Hp} {N:List Str} {ds:List Dv} {vs:List V} (r:Reps K H ds vs):Envs K H (L2.start N vs) (ds.map some ++ E6 (N.length - ds.length) none):=by
 have hl:=r.length;refine ⟨by unfold L2.start; rw [z_,z_,s_,s_,GI,GI,hl],fun i d h=>?_⟩;by_cases hi:i < ds.length
 · rw [FQ (by simpa using hi),Fh] at h;cases hd:ds[i]? with
   | none=>rw [hd] at h; cases h
   | some d' =>
    rw [hd] at h;have h':some (some d')=some (some d):=h;injection h' with h';injection h' with h';subst h';obtain ⟨v,h1,h2⟩:=r.get' hd;refine ⟨v,?_,h2⟩;unfold L2.start;rw [FQ (by rw [s_,hl]; exact hi),Fh,h1] <;> rfl
 · rw [FN (by simpa using hi),G4] at h;split at h <;> cases h
theorem B3 {P:pi} {w:EO} {K:ck} {mg:Str→Option d_} {base:Fg} {qual:Str} {st:F_} {N:List Str} {fb:FnS} (Fn:Fun K x qual st f fd) (S:eU N ps (aE st))
 (hb:∀ (cdv:d_) (A:EQ) (outer:List Env) (s:e_) (H:Hp) (E:XK),Room k (A.deeper (Ir qual (aE st) s.heap.objs.size f cdv))→FSs (nv CX0 P w K mg base N qual (aE st) f cdv A outer s H E).nox (cy st) fb) :
 FnOk P w K mg base CX0 (k + 1) f fd ps (spF K (c8 N.length fb) ps.length):=by
 refine Fn.ok S (fun vs H Q E h=>?_) (fun cdv A outer s H vs Q E hr h=>?_)
 · obtain ⟨ds,r,hl,_⟩:=h;rw [r.length,hl]
 · obtain ⟨ds,r,hl,q⟩:=h;refine ⟨_,(hb cdv A outer s H E hr).h,ds.map some ++ E6 (N.length - ds.length) none,iD r,?_⟩;unfold c8 at q
   match hf:fb (ds.map some ++ E6 (N.length - ds.length) none) with
   | none=>rw [hf] at q; exact q.elim
   | some (.exc c)=>rw [hf] at q; exact q.elim
   | some (.rt d)=>rw [hf] at q; exact fun v H' e r'=>q v H' e r'
   | some (.nx ρ)=>rw [hf] at q; exact fun σ' H' e _=>q .non H' e rfl
end
theorem tI {k:Nat} {f:k_} {fd:F3} {x:Str} {P:pi} {w:EO} {K:ck} {mg:Str→Option d_} {base:Fg} {qual:Str} {st:F_} {F:List Dv→Option (Rs Dv)} {n:Nat} (N ps:List Str) (fb:FnS) (hF:F=c8 N.length fb) (hn:n=ps.length)
 (Fn:Fun K x qual st f fd) (S:eU N ps (aE st))
 (hb:∀ (cdv:d_) (A:EQ) (outer:List Env) (s:e_) (H:Hp) (E:XK),Room k (A.deeper (Ir qual (aE st) s.heap.objs.size f cdv))→FSs (nv CX0 P w K mg base N qual (aE st) f cdv A outer s H E).nox (cy st) fb) :
 FnOk P w K mg base CX0 (k + 1) f fd ps (spF K F n):=by
 subst hF hn;exact B3 Fn S hb
def gX (names:List (Str×GW)) (env:Env) (acc:List (Str×k_)):List (Str×k_):=match names with
 | []=>acc
 | (n,k) :: r=>gX r env (if k == .free then (n,(env.cells.lookup n).getD 0) :: acc else acc)
theorem iE {env:Env} {n:Str} {c:k_}:∀ (names:List (Str×GW)) (acc:List (Str×k_)),(gX names env acc).lookup n=some c→acc.lookup n=some c∨((n,Gi)∈names∧c=(env.cells.lookup n).getD 0)
 | [],acc,h=>.inl h
 | (m,k) :: r,acc,h=>by
  rcases iE r _ h with q | ⟨q1,q2⟩
  · by_cases hk:k=.free
    · subst hk;simp only [beq_self_eq_true,if_true] at q;rw [Fs] at q;cases hm:n == m with
      | true =>
       rw [hm] at q;have e:n=m:=by simpa using hm
       subst e;exact .inr ⟨g_,(Fj q).symm⟩
      | false=>rw [hm] at q; exact .inl q
    · have hb:(k == Gi)=c_:=by simpa using hk
      rw [hb] at q;exact .inl (by simpa using q)
  · exact .inr ⟨f_ _ q1,q2⟩
theorem jM {env:Env} {n:Str}:∀ (names:List (Str×GW)) (acc:List (Str×k_)),(acc.lookup n).isSome=b_→((gX names env acc).lookup n).isSome=b_
 | [],acc,h=>h
 | (m,k) :: r,acc,h=>by
  refine jM r _ ?_;split
  · rw [Fs];cases n == m with
    | true=>rfl
    | false=>exact h
  · exact h
theorem iU {env:Env} {n:Str}:∀ (names:List (Str×GW)) (acc:List (Str×k_)),(n,Gi)∈names→((gX names env acc).lookup n).isSome=b_
 | [],acc,h=>by cases h
 | (m,k) :: r,acc,h=>by
  rcases q_.mp h with e | q
  · injection e with e1 e2;subst e1;subst e2;refine jM r _ ?_;simp only [beq_self_eq_true,if_true,Fs];rfl
  · exact iU r _ q
theorem dg {β:Type} {n:Str} {k:β}:∀ {l:List (Str×β)},l.lookup n=some k→(n,k)∈l
 | [],h=>by simp at h
 | (m,j) :: r,h=>by
  rw [Fs] at h;cases hm:n == m with
  | true =>
   rw [hm] at h;have e:n=m:=by simpa using hm
   subst e;have e2:j=k:=Fj h;subst e2;exact g_
  | false=>rw [hm] at h; exact f_ _ (dg h)
theorem gp {scope:GB} {env:Env} {n:Str} {k:GW} (h:(relabel scope env).names.lookup n=some k):(n,k)∈scope.names∨(k=.cell∧(n,Gi)∈scope.names):=by
 have q:=dg h;unfold relabel at q;obtain ⟨⟨m,j⟩,hm,e⟩:=Fq.mp q;dsimp only at e;split at e
 · rename_i hc;injection e with e1 e2;subst e1;have hj:j=.free:=by
    rw [i_,i_] at hc;simpa using hc.1.1
   subst hj;exact .inr ⟨e2.symm,hm⟩
 · injection e with e1 e2;subst e1;subst e2;exact .inl hm
theorem gq {env:Env}:∀ {names:List (Str×GW)} {n:Str},names.lookup n=some .free →
 (names.map fun (n,k)=>if (k == Gi && env.scope.kind == .function && env.kindOf n == some .cell) then (n,Gu) else (n,k)).lookup n=some .cell ∨
 (names.map fun (n,k)=>if (k == Gi && env.scope.kind == .function && env.kindOf n == some .cell) then (n,Gu) else (n,k)).lookup n=some .free
 | [],_,h=>by simp at h
 | (m,k) :: r,n,h=>by
  have ih:=@gq env r n;rw [Fs] at h;rw [Fe];cases hm:n == m with
  | true =>
   rw [hm] at h;have e2:k=.free:=Fj h;subst e2;by_cases hc:(Gi == Gi && env.scope.kind == .function && env.kindOf m == some .cell)=b_
   · dsimp only;rw [if_pos hc,Fs,hm];exact .inl rfl
   · dsimp only;rw [if_neg hc,Fs,hm];exact .inr rfl
  | false =>
   rw [hm] at h;dsimp only;by_cases hc:(k == Gi && env.scope.kind == .function && env.kindOf m == some .cell)=b_
   · rw [if_pos hc,Fs,hm]; exact ih h
   · rw [if_neg hc,Fs,hm]; exact ih h
def oE (cs:List (Str×Nat)) (ρ:Ev):Ev:=none :: cs.map fun c=>(ρ[c.2]?).join
section
variable {X:Cx} {f':List (k_×Obj)} {σ:L2.St} {H:Hp} {s:e_}
end
def oF (tst:Option FnB) (elt:FnE) (cap:Ev):List Dv→Option (List Dv)
 | []=>some []
 | d :: ds =>
  let ρ:=cap.set 0 (some d)
  match (match tst with | none=>(some (.ok b_):Option (Rs Bool)) | some t=>t ρ) with
  | some (.ok b_)=>(match elt ρ with
   | some (.ok y)=>(match oF tst elt cap ds with | some ys=>some (y :: ys) | none=>none)
   | _=>none)
  | some (.ok c_)=>oF tst elt cap ds
  | _=>none
def cz (cs:List (Str×Nat)) (src:FnA) (tst:Option FnB) (elt:FnE):FnE:=fun ρ=>bnd (src ρ) fun ds=>match oF tst elt (oE cs ρ) ds with
 | some ys=>if ys.length≤100000∧ds.length≤100000 then some (.ok (.lst ys)) else none
 | none=>none
def LAt (h:Fg) (D:k_) (its:List d_):Prop:=∃ n,h.get? D=some { cls:=.type "list",data:=.seq its.toArray n }
theorem mQ {P:pi} {w:EO} {A:EQ} {E:d_→e_→Prop} {s:e_} {D:k_} {its:List d_} {u:d_} {Q:d_→e_→Prop} (h:LAt s.heap D its) (hz:its.length≤100000)
 (hQ:∀ h',LAt h' D (its ++ [u])→(∀ b o,b≠D→s.heap.get? b=some o→h'.get? b=some o)→Q .none { s with heap:=h' }):C_ (A_ P w) A (call (.builtin "list.append") [.ref D,u]) Q E s:=by
 obtain ⟨n,e⟩:=h;refine I0 IB ⟨_,e,rfl⟩ KT (Ku _ _) (Ls D its.toArray n u (by rw [v_]; exact br hz)) ⟨e,?_⟩;have q:=L7 e (·.push u);have e2:its.toArray.push u=(its ++ [u]).toArray:=by simp
 rw [e2] at q;exact hQ _ ⟨_,q⟩ fun b o hb ho=>(HZ s.heap _ (HC hb)).trans ho
def rj (X:Cx) (ifs:List D_) (tst:Option FnB):Prop:=match tst with
 | none=>ifs=[]
 | some t=>∃ c,ifs=[c]∧FT X c t
theorem HOk.add {P:pi} {w:EO} {H:Hp} {h h':Fg} {D C:k_} {o:HO} (x:HOk P w H h) (hD:H D=none) (hC:H C=none) (k:∀ b u,b≠C→h.get? b=some u→h'.get? b=some u) (new:ObjOk P w (upd H D o) h' D o):HOk P w (upd H D o) h':=fun b u e=>by
 by_cases hb:b=D
 · subst hb; rw [ar] at e; cases e; exact new
 · rw [ay hb] at e;refine (x b u e).stay (fun c v hc q=>k c v ?_ q) (fun c q=>by rw [ay (av q hD)]; exact q) fun c xs q=>by rw [ay (av q hD)]; exact q
   rcases hc with rfl | hc
   · exact av e hC
   · exact av hc hC
theorem uT {b D:Nat} (h:b < D):b≠D:=by omega
theorem yz {b D:Nat} (h:b < D):b≠D + 1:=by omega
theorem DI {D:Nat}:D≠D + 1:=by omega
section
variable {X:Cx}
def addD:Dv→Dv→Option (Rs Dv)
 | .int i,.int j=>some (.ok (.int (i + j)))
 | .str x,.str y=>if x.length + y.length≤100000 then some (.ok (.str (x ++ y))) else none
 | .lst a,.lst b=>if a.length + b.length≤100000 then some (.ok (.lst (a ++ b))) else none
 | _,_=>none
def uU:R2:=fun x y H Q=>rI0 (fun i j=>.int (i + j)) x y H Q∨((∃ i j,x=.str i∧y=.str j∧i.length + j.length≤sizeLine∧Q (.str (i ++ j)) H)∨DG x y H Q)
theorem o_add:OpR X (GE .Add) uU:=op_add.or (op_add_str.or tu)
theorem yA:GOp X uU addD:=by
 intro dx dy x y H Q rx ry o;cases dx <;> cases dy <;> try exact (show False from o).elim
 · rename_i i j;exact .inl ⟨i,j,rx,ry,o _ H (.refl H) rfl⟩
 · rename_i i j;simp only [addD] at o;split at o
   · rename_i hl;exact .inr (.inl ⟨i,j,rx,ry,br hl,o _ H (.refl H) rfl⟩)
   · exact o.elim
 · rename_i a b;simp only [addD] at o;split at o
   · rename_i hl;obtain ⟨p,xs,rfl,h1,q1⟩:=rx.lstE;obtain ⟨p2,xs2,rfl,h2,q2⟩:=ry.lstE;refine .inr (.inr ⟨p,p2,xs,xs2,rfl,rfl,h1,h2,by rw [q1.length,q2.length]; exact br hl,fun l hl=>o _ _ (aA hl _) ⟨l,_,rfl,ar,Reps.mono (aA hl _) _ _ (q1.append q2)⟩⟩)
   · exact o.elim
def oG:Dv→Dv→Option (Rs Dv)
 | .int i,.int j=>some (.ok (.int (i - j)))
 | _,_=>none
theorem B4:GOp X (rI0 fun i j=>.int (i - j)) oG:=by
 intro dx dy x y H Q rx ry o;cases dx <;> cases dy <;> try exact (show False from o).elim
 rename_i i j;exact ⟨i,j,rx,ry,o _ H (.refl H) rfl⟩
def gr:Dv→Dv→Option (Rs Dv)
 | .int i,.int j=>if (-18446744073709551616 < i∧i < 18446744073709551616)∨(-18446744073709551616 < j∧j < 18446744073709551616) then some (.ok (.int (i * j))) else none
 | _,_=>none
theorem yB:GOp X (rI CMul fun i j=>.int (i * j)) gr:=by
 intro dx dy x y H Q rx ry o;cases dx <;> cases dy <;> try exact (show False from o).elim
 rename_i i j;simp only [gr] at o;split at o
 · rename_i h;exact ⟨i,j,rx,ry,h,o _ H (.refl H) rfl⟩
 · exact o.elim
def fu:Dv→Dv→Option (Rs Dv)
 | .int i,.int j=>if 0 < j then some (.ok (.int (i % j))) else none
 | _,_=>none
theorem B5:GOp X (rI (fun _ j=>0 < j) fun i j=>.int (i % j)) fu:=by
 intro dx dy x y H Q rx ry o;cases dx <;> cases dy <;> try exact (show False from o).elim
 rename_i i j;simp only [fu] at o;split at o
 · rename_i h;exact ⟨i,j,rx,ry,h,o _ H (.refl H) rfl⟩
 · exact o.elim
def fG:Dv→Dv→Option (Rs Dv)
 | .int i,.int j=>if 0 < j∧j < 1073741824 then some (.ok (.int (i / j))) else none
 | _,_=>none
theorem yC:GOp X (rI DB fun i j=>.int (i / j)) fG:=by
 intro dx dy x y H Q rx ry o;cases dx <;> cases dy <;> try exact (show False from o).elim
 rename_i i j;simp only [fG] at o;split at o
 · rename_i h;exact ⟨i,j,rx,ry,h,o _ H (.refl H) rfl⟩
 · exact o.elim
def gA:Dv→Option (Rs Dv)
 | .int i=>some (.ok (.int (-i)))
 | _=>none
def f1 (g:Dv→Option (Rs Dv)) (fa:FnE):FnE:=fun ρ=>bnd (fa ρ) g
theorem tJ {a:D_} {fa:FnE} {pos:Pos} (ha:FE X a fa):FE X (.UnaryOp .USub a pos) (f1 gA fa) :=
 bR (BI xP ha.h) fun σ H Q ρ E o=>⟨ρ,E,Out.bind o fun d v H1 e r o1=>by
  cases d <;> try exact (show False from o1).elim
  rename_i i;exact ⟨i,r,o1 _ H1 (.refl H1) rfl⟩⟩
def seq (x y:Str):Bool:=x.cps.toList == y.cps.toList
theorem seq_eq (x y:Str):(x == y)=seq x y:=by
 rw [Fv];unfold seq;obtain ⟨⟨a⟩⟩:=x;obtain ⟨⟨b⟩⟩:=y;simp
def eqS:Dv→Dv→Option Bool
 | .non,.non=>some b_
 | .non,.int _=>some c_
 | .int _,.non=>some c_
 | .non,.bl _=>some c_
 | .bl _,.non=>some c_
 | .non,.str _=>some c_
 | .str _,.non=>some c_
 | .int i,.int j=>some (i == j)
 | .bl i,.bl j=>some (i == j)
 | .str i,.str j=>some (seq i j)
 | .int _,.str _=>some c_
 | .str _,.int _=>some c_
 | .bl _,.str _=>some c_
 | .str _,.bl _=>some c_
 | _,_=>none
theorem tK {K:ck} {H:Hp} {dx dy:Dv} {x y:V} {b:Bool} (rx:Rep K H dx x) (ry:Rep K H dy y) (h:eqS dx dy=some b):BK x y=b_∧h_ (x=y)=b:=by
 cases dx <;> cases dy <;> (try cases h) <;> (try (cases rx; cases ry; exact ⟨rfl,by first | rfl | exact kB | exact nX | (rw [kG,seq_eq]) | simp⟩))
def B6 (p:Int→Int→Bool):Dv→Dv→Option (Rs Dv)
 | .int i,.int j=>some (.ok (.bl (p i j)))
 | _,_=>none
theorem B7 (p:Int→Int→Bool):GOp X (rI0 fun i j=>.bl (p i j)) (B6 p):=by
 intro dx dy x y H Q rx ry o;cases dx <;> cases dy <;> try exact (show False from o).elim
 rename_i i j;exact ⟨i,j,rx,ry,o _ H (.refl H) rfl⟩
abbrev gtD:=B6 fun i j=>h_ (j < i)
def isN:Dv→Dv→Option (Rs Dv)
 | x,.non=>some (.ok (.bl (match x with | .non=>b_ | _=>c_)))
 | _,_=>none
def mR:Dv→Dv→Option (Rs Dv)
 | x,.non=>some (.ok (.bl (match x with | .non=>c_ | _=>b_)))
 | _,_=>none
theorem oH {K:ck} {H:Hp} {d:Dv} {v:V} (r:Rep K H d v):h_ (v=.non)=(match d with | .non=>b_ | _=>c_):=by
 cases d with
 | non=>cases (show v=.non from r); rfl
 | bl b=>cases (show v=.bl b from r); rfl
 | int b=>cases (show v=.int b from r); rfl
 | str b=>cases (show v=.str b from r); rfl
 | tup ds=>obtain ⟨a,xs,rfl,_⟩:=r.tupE; rfl
 | lst ds=>obtain ⟨a,xs,rfl,_⟩:=r.lstE; rfl
 | scr ds=>obtain ⟨a,rfl,_⟩:=r.scrE; rfl
 | exn c =>
  obtain ⟨a,_,_,_,rfl,_⟩:=r.exnE;rfl
theorem B8:GOp X (fun x y H Q=>y=.non∧Q (.bl (h_ (x=.non))) H) isN:=by
 intro dx dy x y H Q rx ry o;cases dy <;> try exact (show False from o).elim
 have q:=oH rx;refine ⟨ry,?_⟩;have q2:=o _ H (.refl H) rfl;cases dx <;> (rw [q]; exact q2)
theorem yD:GOp X (fun x y H Q=>y=.non∧Q (.bl (!h_ (x=.non))) H) mR:=by
 intro dx dy x y H Q rx ry o;cases dy <;> try exact (show False from o).elim
 have q:=oH rx;refine ⟨ry,?_⟩;have q2:=o _ H (.refl H) rfl;cases dx <;> (rw [q]; exact q2)
def inS (x y:Str):Bool:=!(FM y x 0 y.length 1).isEmpty
def jN:Dv→Bool
 | .non=>b_
 | .bl _=>b_
 | .int _=>b_
 | .str _=>b_
 | _=>c_
def eqF:Dv→Dv→Bool
 | .non,.non=>b_
 | .bl a,.bl b=>a == b
 | .bl a,.int b=>(if a then 1 else 0) == b
 | .int a,.bl b=>a == (if b then 1 else 0)
 | .int a,.int b=>a == b
 | .str a,.str b=>seq a b
 | _,_=>c_
def inL (x:Dv) (ys:List Dv):Option Bool:=if jN x && ys.all jN then some (ys.any fun y=>eqF y x) else none
def yE:Dv→Dv→Option Bool
 | .str x,.str y=>some (inS x y)
 | x,.lst ys=>inL x ys
 | x,.tup ys=>inL x ys
 | _,_=>none
def inD (x y:Dv):Option (Rs Dv):=match yE x y with
 | some b=>some (.ok (.bl b))
 | none=>none
def dh (x y:Dv):Option (Rs Dv):=match yE x y with
 | some b=>some (.ok (.bl (!b)))
 | none=>none
theorem oJ {K:ck} {H:Hp} {d:Dv} {v:V} (r:Rep K H d v) (h:jN d=b_):gx v=b_:=by
 cases d <;> first | (cases h; done) | (cases r; rfl)
theorem lK {K:ck} {H:Hp}:∀ {ds:List Dv} {vs:List V},Reps K H ds vs→ds.all jN=b_→vs.all gx=b_
 | [],vs,r,_=>by cases (show vs=[] from r); rfl
 | d :: ds,vs,r,h=>by
  obtain ⟨v,us,rfl,r1,r2⟩:∃ v us,vs=v :: us∧Rep K H d v∧Reps K H ds us:=r;rw [Hi,i_] at h;rw [Hi,i_];exact ⟨oJ r1 h.1,lK r2 h.2⟩
theorem yF {K:ck} {H:Hp} {d e:Dv} {v u:V} (r:Rep K H d v) (q:Rep K H e u) (h:jN d=b_) (h':jN e=b_):eqV v u=eqF d e:=by
 cases d <;> first | (cases h; done) | (cases r; cases e <;> first | (cases h'; done) | (cases q; first | rfl | exact seq_eq _ _))
theorem tL {K:ck} {H:Hp} {e:Dv} {u:V} (q:Rep K H e u) (h':jN e=b_):∀ {ds:List Dv} {vs:List V},Reps K H ds vs→ds.all jN=b_→(vs.any fun y=>eqV y u)=ds.any fun y=>eqF y e
 | [],vs,r,_=>by cases (show vs=[] from r); rfl
 | d :: ds,vs,r,h=>by
  obtain ⟨v,us,rfl,r1,r2⟩:∃ v us,vs=v :: us∧Rep K H d v∧Reps K H ds us:=r;rw [Hi,i_] at h;rw [JC,JC,yF r1 q h.1 h',tL q h' r2 h.2]
theorem lL {K:ck} {H:Hp} {dx:Dv} {ys:List Dv} {x:V} {vs:List V} {b:Bool} (rx:Rep K H dx x) (ry:Reps K H ys vs) (h:inL dx ys=some b):gx x=b_∧vs.all gx=b_∧inV x vs=b:=by
 unfold inL at h;split at h
 · rename_i hc;rw [i_] at hc;cases h;exact ⟨oJ rx hc.1,lK ry hc.2,tL rx hc.1 ry hc.2⟩
 · cases h
def B9 (K:ck):R2:=fun x y H Q=>(∃ i j,x=.str i∧y=.str j∧Q (.bl (!(FM j i 0 j.length 1).isEmpty)) H)∨rIn K c_ x y H Q
def kP (K:ck):R2:=fun x y H Q=>(∃ i j,x=.str i∧y=.str j∧Q (.bl (!(!(FM j i 0 j.length 1).isEmpty))) H)∨rIn K b_ x y H Q
theorem o_in:OpR X (Fp .In) (B9 X.K):=op_in_str.or oj
theorem o_notIn:OpR X (Fp .NotIn) (kP X.K):=op_notIn_str.or jI
theorem DJ:GOp X (B9 X.K) inD:=by
 intro dx dy x y H Q rx ry o;unfold inD at o;split at o
 · rename_i b hb;have q:=o _ H (.refl H) rfl;cases dy <;> try (cases dx <;> cases hb; done)
   · rename_i z;cases dx <;> try (cases hb; done)
     rename_i z';cases hb;exact .inl ⟨z',z,rx,ry,q⟩
   · rename_i ys;have hb':inL dx ys=some b:=by cases dx <;> exact hb
     obtain ⟨a,vs,rfl,h1,h2⟩:=ry.tupE;obtain ⟨f1,f2,f3⟩:=lL rx h2 hb';exact .inr ⟨a,vs,rfl,.inr (SqT.of h1),f1,f2,by rw [if_neg n_,f3]; exact q⟩
   · rename_i ys;have hb':inL dx ys=some b:=by cases dx <;> exact hb
     obtain ⟨a,vs,rfl,h1,h2⟩:=ry.lstE;obtain ⟨f1,f2,f3⟩:=lL rx h2 hb';exact .inr ⟨a,vs,rfl,.inl (SqL.of h1),f1,f2,by rw [if_neg n_,f3]; exact q⟩
 · exact o.elim
theorem kQ:GOp X (kP X.K) dh:=by
 intro dx dy x y H Q rx ry o;unfold dh at o;split at o
 · rename_i b hb;have q:=o _ H (.refl H) rfl;cases dy <;> try (cases dx <;> cases hb; done)
   · rename_i z;cases dx <;> try (cases hb; done)
     rename_i z';cases hb;exact .inl ⟨z',z,rx,ry,q⟩
   · rename_i ys;have hb':inL dx ys=some b:=by cases dx <;> exact hb
     obtain ⟨a,vs,rfl,h1,h2⟩:=ry.tupE;obtain ⟨f1,f2,f3⟩:=lL rx h2 hb';exact .inr ⟨a,vs,rfl,.inr (SqT.of h1),f1,f2,by rw [if_pos rfl,f3]; exact q⟩
   · rename_i ys;have hb':inL dx ys=some b:=by cases dx <;> exact hb
     obtain ⟨a,vs,rfl,h1,h2⟩:=ry.lstE;obtain ⟨f1,f2,f3⟩:=lL rx h2 hb';exact .inr ⟨a,vs,rfl,.inl (SqL.of h1),f1,f2,by rw [if_pos rfl,f3]; exact q⟩
 · exact o.elim
def atD {α:Type} (xs:List α) (i:Int):Option α:=if 0≤i then xs[i.toNat]? else if -(xs.length:Int)≤i then xs[(i + xs.length).toNat]? else none
theorem iV {α:Type} {xs:List α} {i:Int} {v:α} (h:atD xs i=some v):atI xs i=some v:=by
 unfold atD at h;unfold atI ixN;split at h
 · rename_i h0;have hl:i.toNat < xs.length:=by
    obtain ⟨q,_⟩:=E_.mp h;exact q
   rw [if_pos h0,if_pos (by omega)];exact h
 · rename_i h0;split at h
   · rename_i h1;rw [if_neg h0,if_pos h1];exact h
   · cases h
def ixD:Dv→Dv→Option (Rs Dv)
 | .lst xs,.int i=>(match atD xs i with | some d=>some (.ok d) | none=>none)
 | .tup xs,.int i=>(match atD xs i with | some d=>some (.ok d) | none=>none)
 | .str z,.int i=>if z.length≤100000 then (match atD z.cps.toList i with | some c=>some (.ok (.str ⟨#[c]⟩)) | none=>none) else none
 | .scr ns,.int i=>(match atD ns i with | some d=>some (.ok (.int d)) | none=>none)
 | _,_=>none
theorem kT {α β:Type} {xs:List α} {ys:List β} (h:ys.length=xs.length) {i:Int} {x:α} (e:atD xs i=some x):∃ j:Nat,xs[j]?=some x∧∀ y,ys[j]?=some y→atD ys i=some y:=by
 unfold atD at e;split at e
 · rename_i h0;exact ⟨_,e,fun y q=>by unfold atD; rw [if_pos h0]; exact q⟩
 · rename_i h0;split at e
   · rename_i h1;exact ⟨_,e,fun y q=>by unfold atD; rw [if_neg h0,h,if_pos h1]; exact q⟩
   · cases e
theorem En:GOp X (rIx X.K) ixD:=by
 intro dx dy x y H Q rx ry o;cases dx <;> cases dy <;> try exact (show False from o).elim
 · rename_i z i;simp only [ixD] at o;split at o
   · rename_i hl;split at o
     · rename_i c hc;exact .inr (.inr ⟨z,i,c,rx,ry,br hl,iV hc,o _ H (.refl H) rfl⟩)
     · exact o.elim
   · exact o.elim
 · rename_i ds i;simp only [ixD] at o;split at o
   · rename_i d hd;obtain ⟨a,xs,rfl,h1,h2⟩:=rx.tupE;obtain ⟨j,e1,e2⟩:=kT h2.length hd;obtain ⟨v,e3,r3⟩:=h2.get' e1;exact .inr (.inl ⟨a,xs,i,v,rfl,ry,SqT.of h1,iV (e2 v e3),o v H (.refl H) r3⟩)
   · exact o.elim
 · rename_i ds i;simp only [ixD] at o;split at o
   · rename_i d hd;obtain ⟨a,xs,rfl,h1,h2⟩:=rx.lstE;obtain ⟨j,e1,e2⟩:=kT h2.length hd;obtain ⟨v,e3,r3⟩:=h2.get' e1;exact .inl ⟨a,xs,i,v,rfl,ry,SqL.of h1,iV (e2 v e3),o v H (.refl H) r3⟩
   · exact o.elim
 · rename_i ns i;simp only [ixD] at o;split at o
   · rename_i d hd;obtain ⟨a,rfl,h1⟩:=rx.scrE;obtain ⟨j,e1,e2⟩:=kT (ys:=ns.map V.int) (by simp) hd;exact .inl ⟨a,_,i,.int d,rfl,ry,h1,iV (e2 _ (by rw [Fh,e1] <;> rfl)),o _ H (.refl H) rfl⟩
   · exact o.elim
theorem Ca {a b:D_} {fa fb:FnE} {pos:Pos} (ha:FE X a fa) (hb:FE X b fb) (hs:oh b:=by intro _ _; kernel_rfl):FE X (.Subscript a b pos) (f2 ixD fa fb) :=
 bR (BQ xY ha.h hb.h hs) fun _ _ _ _ E o=>two En E o
abbrev FnO:=Ev→Option (Rs (Option Int))
def OutO (X:Cx) (H:Hp) (o:Option (Rs (Option Int))) (Q:Option Int→Hp→Prop):Prop:=match o with
 | none=>False
 | some (.exc c)=>XW X c H
 | some (.ok d)=>∀ H',Same H H'→Q d H'
theorem OutO.mono {H H':Hp} {Q:Option Int→Hp→Prop} (e:Same H H'):∀ {o:Option (Rs (Option Int))},OutO X H o Q→OutO X H' o Q
 | none,h=>h
 | some (.exc _),h=>XW.mono h e
 | some (.ok _),h=>fun H1 e1=>h H1 (e.trans e1)
structure FO (X:Cx) (e:Option D_) (f:FnO):Prop where
 h:PO X e fun σ H Q=>∃ ρ,Envs X.K H σ ρ∧OutO X H (f ρ) Q
def au:FnO:=fun _=>some (.ok none)
def toI:Dv→Option (Rs (Option Int))
 | .int i=>some (.ok (some i))
 | _=>none
def am (f:FnE):FnO:=fun ρ=>bnd (f ρ) toI
theorem uV:FO X none au:=⟨fun f' s σ H Q I ⟨_,_,o⟩=>uJ f' s σ H Q I (o H (.refl H))⟩
theorem uW {e:D_} {fa:FnE} (h:FE X e fa):FO X (some e) (am fa):=⟨fun f' s σ H Q I ⟨ρ,E,o⟩=>uK h.h f' s σ H Q I ⟨ρ,E,by
 unfold am at o
 match hf:fa ρ,o with
 | none,o=>exact o
 | some (.exc c),o=>exact o
 | some (.ok d),o =>
  intro v H' e r;cases d <;> try exact (show False from o).elim
  rename_i i;exact ⟨i,r,o H' e⟩⟩⟩
def fv {α:Type} (xs:List α) (lo hi:Option Int):List α:=(xs.drop (HT.sIx xs.length 0 lo)).take (HT.sIx xs.length xs.length hi - HT.sIx xs.length 0 lo)
def Eo:V→Option Int→Option Int→Hp→VK→Prop:=fun x lo hi H Q=>∃ z,x=.str z∧z.length≤sizeLine∧Q (.str (FP z lo hi)) H
theorem sl_str:SlR X Eo:=by
 intro f' s σ H x v vl vu lo hi sl Q I rx hs pl pu q;obtain ⟨z,rfl,hz,q⟩:=q;obtain ⟨t,rfl⟩:=rx;refine ⟨"str",_,F.slot_str_getitem.lookup,Ip _ _ _,?_⟩;have fin:∀ (t':Tok) (k:Nat),EP X f' σ Q (.str (FP z lo hi) t') { s with toks:=k }:=fun t' k=>⟨.str (FP z lo hi),H,I.tok _,⟨_,rfl⟩,q⟩;cases pl with
 | none =>
  cases pu with
  | none=>exact GU (l:=none) (u:=none) (st:=none) hs rfl (ID ⟨EW (Hs z _ _) hz,fun t' k=>fin t' k⟩)
  | int j u=>exact GU (l:=none) (u:=some (j,u)) (st:=none) hs rfl (ID ⟨EW (Hs z _ _) hz,fun t' k=>fin t' k⟩)
 | int i u' =>
  cases pu with
  | none=>exact GU (l:=some (i,u')) (u:=none) (st:=none) hs rfl (ID ⟨EW (Hs z _ _) hz,fun t' k=>fin t' k⟩)
  | int j u=>exact GU (l:=some (i,u')) (u:=some (j,u)) (st:=none) hs rfl (ID ⟨EW (Hs z _ _) hz,fun t' k=>fin t' k⟩)
def Bo (x:Dv) (lo hi:Option Int):Option (Rs Dv):=match x with
 | .str z=>if z.length≤100000 then some (.ok (.str (FP z lo hi))) else none
 | .lst xs=>some (.ok (.lst (fv xs lo hi)))
 | _=>none
def lM (fa:FnE) (fl fh:FnO):FnE:=fun ρ=>bnd (fa ρ) fun x=>bnd (fl ρ) fun lo=>bnd (fh ρ) fun hi=>Bo x lo hi
theorem fH {H:Hp} {Q:VK} {o:Option (Rs (Option Int))} {k:Option Int→Option (Rs Dv)} {P:Option Int→Hp→Prop} (h:Out X H (bnd o k) Q) (hp:∀ b H',Same H H'→Out X H' (k b) Q→P b H'):OutO X H o P:=by
 match o,h with
 | some (.exc _),h=>exact h
 | some (.ok d),h=>exact fun H1 e=>hp d H1 e (Out.mono e h)
theorem yG {a:D_} {lo hi:Option D_} {fa:FnE} {fl fh:FnO} {p2 pos:Pos} (ha:FE X a fa) (hl:FO X lo fl) (hh:FO X hi fh):FE X (.Subscript a (.Slice lo hi none p2) pos) (lM fa fl fh) :=
 bR (lH (sl_str.or oi) ha.h hl.h hh.h) fun σ H Q ρ E o=>⟨ρ,E,Out.bind o fun d v H1 e1 r1 o1=>⟨ρ,E.mono e1,fH o1 fun l H2 e2 o2=>⟨ρ,(E.mono e1).mono e2,fH o2 fun u H3 e3 o3=>by
  have r3:=Rep.mono e3 d v (Rep.mono e2 d v r1);cases d <;> try exact (show False from o3).elim
  · rename_i z;unfold Bo at o3;dsimp only at o3;split at o3
    · rename_i hz;exact .inl ⟨z,r3,br hz,o3 _ H3 (.refl H3) rfl⟩
    · exact o3.elim
  · rename_i ds;obtain ⟨a',xs,rfl,h1,h2⟩:=r3.lstE;refine .inr ⟨a',xs,rfl,SqL.of h1,fun p hp=>o3 _ _ (aA hp _) ⟨p,_,rfl,ar,Reps.mono (aA hp _) _ _ ?_⟩⟩;unfold qX fv;rw [h2.length];exact (h2.drop _).take _⟩⟩⟩
def bA:List Dv→Option (Rs Dv)
 | [.str z]=>if z.length≤100000 then some (.ok (.int z.length)) else none
 | [.lst xs]=>some (.ok (.int xs.length))
 | [.tup xs]=>some (.ok (.int xs.length))
 | [.scr ns]=>some (.ok (.int ns.length))
 | _=>none
def fB1 (g:List Dv→Option (Rs Dv)) (ga:FnA):FnE:=fun ρ=>bnd (ga ρ) g
variable {x:Str} {p pos:Pos} {e:D_} {es:List D_} {ga:FnA}
theorem eJ {K:ck} {H:Hp} {d:Dv} {vs:List V} (r:Reps K H [d] vs):∃ v,vs=[v]∧Rep K H d v:=by
 obtain ⟨v,us,rfl,r1,r2⟩:∃ v us,vs=v :: us∧Rep K H d v∧Reps K H [] us:=r;cases (show us=[] from r2);exact ⟨v,rfl,r1⟩
theorem yH (hg:Gl X "len") (hm:X.mg "len"=none) (ha:FA X (e :: es) ga) (he:j_ (e :: es) X.env=(c_,eval e X.env) :: j_ es X.env:=by kernel_rfl) (hpl:(FV pos (j_ es X.env)).any (·.1)=c_:=by kernel_rfl):FE X (.Call (.Name "len" p) (e :: es) [] pos) (fB1 bA ga) :=
 bR (fw qV hg hm Mv ha.h (by decide) (by decide) he hpl) fun σ H Q ρ E o=>⟨ρ,E,OutA.bind o fun ds vs H1 e1 rs o1=>by
  unfold bA at o1;split at o1
  · rename_i z;split at o1
    · rename_i hz;obtain ⟨v,rfl,r⟩:=eJ rs;cases (show v=.str z from r);exact ⟨_,_,rfl,⟨br hz,rfl⟩,o1 _ H1 (.refl H1) rfl⟩
    · exact o1.elim
  · rename_i xs;obtain ⟨v,rfl,r⟩:=eJ rs;obtain ⟨a,ws,rfl,h1,h2⟩:=r.lstE;exact ⟨_,_,rfl,.inl ⟨ws,SqL.of h1,rfl⟩,o1 _ H1 (.refl H1) (by rw [h2.length]; rfl)⟩
  · rename_i xs;obtain ⟨v,rfl,r⟩:=eJ rs;obtain ⟨a,ws,rfl,h1,h2⟩:=r.tupE;exact ⟨_,_,rfl,.inr ⟨ws,SqT.of h1,rfl⟩,o1 _ H1 (.refl H1) (by rw [h2.length]; rfl)⟩
  · rename_i ns;obtain ⟨v,rfl,r⟩:=eJ rs;obtain ⟨a,rfl,h1⟩:=r.scrE;exact ⟨_,_,rfl,.inl ⟨_,h1,rfl⟩,o1 _ H1 (.refl H1) (by rw [s_]; rfl)⟩
  · exact o1.elim⟩
def gB:List Dv→Option (List Bool)
 | []=>some []
 | .bl b :: r=>(match gB r with | some bs=>some (b :: bs) | none=>none)
 | _=>none
def iW:List Dv→Option (Rs Dv)
 | [.lst xs]=>(match gB xs with | some bs=>some (.ok (.bl (bs.all id))) | none=>none)
 | _=>none
theorem lN {K:ck} {H:Hp}:∀ {ds:List Dv} {vs:List V} {us:List d_} {bs:List Bool},Reps K H ds vs→Vals vs us→gB ds=some bs→us=bs.map Gb
 | [],vs,us,bs,r,q,h=>by
  cases (show vs=[] from r);cases q;cases h;rfl
 | d :: ds,vs,us,bs,r,q,h=>by
  obtain ⟨v,ws,rfl,r1,r2⟩:∃ v us,vs=v :: us∧Rep K H d v∧Reps K H ds us:=r;cases q with
  | cons q1 q2 =>
   cases d <;> try (cases h; done)
   rename_i b;simp only [gB] at h;cases hb:gB ds with
   | none=>rw [hb] at h; cases h
   | some bs' =>
    rw [hb] at h;cases h;cases (show v=.bl b from r1);cases q1;rw [lN r2 q2 hb];rfl
theorem rm:CallR X (.builtin "all") (fun xs H Q=>∃ a vs bs ds,xs=[.ref a]∧H a=some (.lst vs)∧Reps X.K H ds vs∧gB ds=some bs∧X.calm=b_∧Q (.bl (bs.all id)) H):=by
 intro f' s σ H xs us Q I r h;obtain ⟨a,vs,bs,ds,rfl,h1,h2,h3,hc,q⟩:=h;obtain ⟨u,rfl,ru⟩:=gw r;cases ru;obtain ⟨z,its,n,rv,hl,e⟩:=I.lstM h1;have eb:=lN h2 rv h3;subst eb;have hL:s.heap.IsList a (bs.map Gb).toArray:=⟨_,e,rfl,_,rfl⟩;have hlt:a < s.heap.objs.size:=B_ e;refine call_all_walk (HU hL ?_);refine ⟨s.heap.objs.size,[s.heap.objs.size,a],[s.heap.objs.size],(bs.map Gb).toArray.size,_,_,fun i=>(bs[i]?).getD b_,rfl,Walks.list (A:=X.A.in1) (I.ok.hd hc) _ a (Fy hlt) (bs.map Gb).toArray,
  ⟨⟨_,EY _ rfl,rfl,rfl⟩,hL.push _⟩,fun i v s' Q' E' hP hQ=>?_,fun h' tk hk=>?_⟩
 · have hP':(bs.map Gb)[i]?=some v:=by simpa using hP
   rw [Fh] at hP';cases hb:bs[i]? with
   | none=>rw [hb] at hP'; cases hP'
   | some b =>
    rw [hb] at hP';cases hP';have hQ2:Q' ((bs[i]?).getD b_) s':=hQ;rw [hb] at hQ2;exact GO hQ2
 · have e2:((l_ (bs.map Gb).toArray.size).all fun i=>(bs[i]?).getD b_)=bs.all id:=by
    rw [v_,s_];rw [Fv];simp only [r_,Fd,id];constructor
    · intro hh b hb;obtain ⟨i,hi,rfl⟩:=List.mem_iff_getElem.mp hb;simpa [hi] using hh i hi
    · intro hh i hi;simp only [Ff hi,Option.getD_some];exact hh _ (Hu hi)
   rw [e2];refine ⟨.bl _,H,I.kept fun b x eb=>hk b x (fun hm=>?_) (on _ eb),rfl,q⟩;rw [Fc.mp hm] at eb;exact Gj _ (B_ eb)
theorem yI (hc:X.calm=b_) (hg:Gl X "all") (hm:X.mg "all"=none) (ha:FA X (e :: es) ga) (he:j_ (e :: es) X.env=(c_,eval e X.env) :: j_ es X.env:=by kernel_rfl) (hpl:(FV pos (j_ es X.env)).any (·.1)=c_:=by kernel_rfl):FE X (.Call (.Name "all" p) (e :: es) [] pos) (fB1 iW ga) :=
 bR (fw rm hg hm PyProof.Rows.boot_all ha.h (by decide) (by decide) he hpl) fun σ H Q ρ E o=>⟨ρ,E,OutA.bind o fun ds vs H1 e1 rs o1=>by
  unfold iW at o1;split at o1
  · rename_i xs;split at o1
    · rename_i bs hb;obtain ⟨v,rfl,r⟩:=eJ rs;obtain ⟨a,ws,rfl,h1,h2⟩:=r.lstE;exact ⟨a,ws,bs,xs,rfl,h1,h2,hb,hc,o1 _ H1 (.refl H1) rfl⟩
    · exact o1.elim
  · exact o1.elim⟩
def tyD:Dv→String
 | .non=>"NoneType"
 | .bl _=>"bool"
 | .int _=>"int"
 | .str _=>"str"
 | .tup _=>"tuple"
 | .lst _=>"list"
 | .scr _=>"list"
 | .exn _=>"object"
end
section
variable {X:Cx} {p pos apos cpos pT:Pos} {e a o:D_} {es:List D_} {ga:FnA} {fa fo:FnE}
theorem uX {K:ck} {H:Hp} {d:Dv} {v:V} (r:Rep K H d v) (hs:∀ ns,d≠.scr ns) (hx:∀ c,d≠.exn c):lE K H v (.type (tyD d)):=by
 cases d with
 | non=>cases (show v=.non from r); exact .non
 | bl b=>cases (show v=.bl b from r); exact .bl b
 | int b=>cases (show v=.int b from r); exact .int b
 | str b=>cases (show v=.str b from r); exact .str b
 | tup ds=>obtain ⟨a,xs,rfl,h,_⟩:=r.tupE; exact .tup h
 | lst ds=>obtain ⟨a,xs,rfl,h,_⟩:=r.lstE; exact .lst h
 | scr ns=>exact absurd rfl (hs ns)
 | exn c=>exact absurd rfl (hx c)
theorem rn (T:String):CallR X (.builtin "isinstance") (fun xs H Q=>∃ x t b,xs=[x,.ty T]∧lE X.K H x t∧GV X.K t (.type T)=some b∧Q (.bl b) H):=by
 intro f' s σ H xs us Q I r h;obtain ⟨x,t,b,rfl,ty,hk,q⟩:=h;obtain ⟨u,w',rfl,ru,rw'⟩:=xR r;cases (show w'=Fb T from rw');exact n8 I ru ty hk fun tk=>⟨.bl b,H,I.tok tk,rfl,q⟩
def eQ (tb:Dv→Bool):Dv→Option (Rs Dv)
 | .scr _=>none
 | .exn _=>none
 | d=>some (.ok (.bl (tb d)))
theorem lO {T:String} {tb:Dv→Bool} (hk:∀ K d,GV K (.type (tyD d)) (.type T)=some (tb d)) (hT:F9 (a_ T)=some (.type T)) (hn:a_ T≠"__name__") (hdT:(a_ T == ("__debug__":Str))=c_)
 (hg:Gl X "isinstance") (hm:X.mg "isinstance"=none) (hgT:Gl X (a_ T)) (hmT:X.mg (a_ T)=none) (ha:FE X a fa)
 (hs1:j_ [a,.Name (a_ T) pT] X.env=(c_,eval a X.env) :: j_ [.Name (a_ T) pT] X.env:=by kernel_rfl) (hs2:j_ [.Name (a_ T) pT] X.env=(c_,eval (.Name (a_ T) pT) X.env) :: j_ [] X.env:=by kernel_rfl)
 (hpl:(FV pos (j_ [.Name (a_ T) pT] X.env)).any (·.1)=c_:=by kernel_rfl) :
 FE X (.Call (.Name "isinstance" p) [a,.Name (a_ T) pT] [] pos) (f1 (eQ tb) fa) :=
 bR (fw (rn T) hg hm Hb (eT ha.h (eT (nM (v:=.ty T) hgT hmT hT rfl hn hdT) lF hs2) hs1) (by decide) (by decide) hs1 hpl) fun σ H Q ρ E o=>⟨ρ,E,Out.bind o fun d v H1 e1 r o1=>by
  show ∃ x t b,[v,V.ty T]=[x,.ty T]∧_;cases d with
  | scr ns=>exact o1.elim
  | exn c=>exact o1.elim
  | _=>exact ⟨v,_,_,rfl,uX r (fun ns z=>by cases z) (fun c z=>by cases z),hk X.K _,o1 _ H1 (.refl H1) rfl⟩⟩
def dU:Dv→Bool
 | .str _=>b_
 | _=>c_
theorem uY (K:ck) (d:Dv):GV K (.type (tyD d)) (.type "str")=some (dU d):=by cases d <;> kernel_rfl
def eV:Dv→Bool
 | .tup _=>b_
 | _=>c_
theorem uZ (K:ck) (d:Dv):GV K (.type (tyD d)) (.type "tuple")=some (eV d):=by cases d <;> kernel_rfl
def c9:Dv→Bool
 | .bl _=>b_
 | _=>c_
theorem rq (K:ck) (d:Dv):GV K (.type (tyD d)) (.type "bool")=some (c9 d):=by cases d <;> kernel_rfl
def fM (g:Str→List Dv→Option (Rs Dv)) (fo:FnE) (ga:FnA):FnE:=fun ρ=>bnd (fo ρ) fun x=>match x with
 | .str i=>bnd (ga ρ) fun xs=>g i xs
 | _=>none
def kU (h:Str→Str→Bool):Str→List Dv→Option (Rs Dv)
 | x,[.str y]=>some (.ok (.bl (h x y)))
 | _,_=>none
def u5 (h:Str→Str→Bool):V→List V→Hp→VK→Prop:=fun x xs H Q=>∃ i j,x=.str i∧xs=[.str j]∧Q (.bl (h i j)) H
theorem Cb:MtR X "str.startswith" (u5 uk):=by
 intro f' s σ H x xs v us Q I rx rs h;obtain ⟨i,j,rfl,rfl,q⟩:=h;obtain ⟨t,rfl⟩:=rx;obtain ⟨u,rfl,ru⟩:=gw rs;obtain ⟨t',rfl⟩:=ru;exact SC.startswith ⟨.bl _,H,I,rfl,q⟩
theorem Cc:MtR X "str.endswith" (u5 HX):=by
 intro f' s σ H x xs v us Q I rx rs h;obtain ⟨i,j,rfl,rfl,q⟩:=h;obtain ⟨t,rfl⟩:=rx;obtain ⟨u,rfl,ru⟩:=gw rs;obtain ⟨t',rfl⟩:=ru;exact SC.endswith ⟨.bl _,H,I,rfl,q⟩
theorem u8 {name:Str} {id:String} {r:V→List V→Hp→VK→Prop} {g:Str→List Dv→Option (Rs Dv)} (slot:Slot "str" name id) (hty:typeOf (.builtin id)=pure (.type "method_descriptor")) (hm:MtR X id r)
 (hg:∀ i ds vs H Q,Reps X.K H ds vs→Out X H (g i ds) Q→r (.str i) vs H Q) (ho:FE X o fo) (ha:FA X (e :: es) ga)
 (hbase:Ix o name X.env (eval o X.env)=eval o X.env:=by kernel_rfl)
 (hfew:((FV cpos (j_ (e :: es) X.env)).all (fun x=>!x.1) && (Lw cpos (Jq [] X.env)).all (fun x=>x.1.isSome)
   && h_ ((e :: es).length + ([]:List Hz).length + (if ([]:List Hz).isEmpty then 0 else 1) < 30))=b_:=by kernel_rfl)
 (hline:(apos.endLine == cpos.line)=b_:=by kernel_rfl) (hs:j_ (e :: es) X.env=(c_,eval e X.env) :: j_ es X.env:=by kernel_rfl) (hplain:(FV cpos (j_ es X.env)).any (·.1)=c_:=by kernel_rfl) :
 FE X (.Call (.Attribute o name apos) (e :: es) [] cpos) (fM g fo ga) :=
 bR (yb PySem.F.plainAttrs_str slot hty hm ho.h ha.h hbase hfew hline hs hplain) fun σ H Q ρ E o=>⟨ρ,E,Out.bind o fun d v H1 e1 rd o1=>by
  cases d <;> try exact (show False from o1).elim
  rename_i i;cases (show v=.str i from rd);exact ⟨rfl,ρ,E.mono e1,OutA.bind o1 fun ds vs H2 e2 rs o2=>hg i ds vs H2 Q rs o2⟩⟩
theorem tM {h:Str→Str→Bool} (i:Str) (ds:List Dv) (vs:List V) (H:Hp) (Q:VK) (rs:Reps X.K H ds vs) (o:Out X H (kU h i ds) Q):u5 h (.str i) vs H Q:=by
 unfold kU at o;split at o
 · rename_i j;obtain ⟨w,rfl,rw'⟩:=eJ rs;cases (show w=.str j from rw');exact ⟨i,j,rfl,rfl,o _ H (.refl H) rfl⟩
 · exact o.elim
def DK (K:ck):R2:=fun x y H Q=>∃ (a b:k_) (ns:List Int),x=.ref a∧y=.ref b∧SqL K H a (ns.map V.int)∧H b=some (.lst [])∧Q (.bl ns.isEmpty) H
theorem Cd (hu:X.A.units < cLine):OpR X (Fp .Eq) (DK X.K):=by
 intro f' s σ H x y v u Q I rx ry h;obtain ⟨a,b,ns,rfl,rfl,h1,h2,q⟩:=h;cases rx;cases ry;obtain ⟨its,r,pl,hz⟩:=I.list h1;obtain ⟨z2,its2,n2,r2,hl2,e2⟩:=I.lstM h2;cases r2;have hb:s.heap.IsList b #[]:=⟨_,e2,rfl,_,rfl⟩;have hl:=r.length;cases ns with
 | nil =>
  have e0:its=[]:=by cases its with | nil=>rfl | cons _ _=>simp at hl
  subst e0;exact SeqAt.eq_listAt (e:=fun _=>b_) pl.isList hb rfl hu (fun i hi=>absurd hi (by simp)) (by first | exact ⟨.bl _,H,I,rfl,q⟩ | (refine ⟨.bl _,H,I,?_,q⟩; simp [RelV]))
 | cons n ns =>
  refine SeqAt.eq_list_lengthsAt pl.isList hb ?_ hu ⟨.bl _,H,I,rfl,q⟩;have:0 < its.length:=by rw [← hl]; simp
  simp;exact fun z=>by rw [z] at this; simp at this
def Bp:Dv→Dv→Option (Rs Dv)
 | .scr ns,.lst []=>some (.ok (.bl ns.isEmpty))
 | _,_=>none
theorem Ce:GOp X (DK X.K) Bp:=by
 intro dx dy x y H Q rx ry o;unfold Bp at o;split at o
 · rename_i ns;obtain ⟨a,rfl,h1⟩:=rx.scrE;obtain ⟨b,xs,rfl,h2,h3⟩:=ry.lstE;cases (show xs=[] from h3);exact ⟨a,b,ns,rfl,rfl,h1,h2,o _ H (.refl H) rfl⟩
 · exact o.elim
end
end FD
namespace FD
open PySem
theorem yJ:F9 (a_ "str")=some (.type "str"):=PyProof.Rows.boot_str
theorem rz:F9 (a_ "tuple")=some (.type "tuple"):=by decide +kernel
theorem va:F9 (a_ "bool")=some (.type "bool"):=by decide +kernel
end FD
namespace FD
open PySem PySem.Spec PyProof.Rows L2
mutual
def bP:Dv→PyData
 | .non=>.none
 | .bl b=>.bool b
 | .int i=>.int i
 | .str x=>.str x
 | .tup xs=>.tuple (toPys xs)
 | .lst xs=>.list (toPys xs)
 | .scr ns=>.list (ns.map PyData.int)
 | .exn _=>.dict []
def toPys:List Dv→List PyData
 | []=>[]
 | d :: ds=>bP d :: toPys ds
end
section
variable {X:Cx} {f':List (k_×Obj)} {σ:L2.St} {H:Hp} {s:e_}
theorem iF:∀ {ns:List Int} {us:List d_},Vals (ns.map V.int) us→∃ as,ReadsAll s.heap us (ns.map PyData.int) as
 | [],us,r=>by cases r; exact ⟨_,.nil⟩
 | n :: ns,us,r=>by
  cases r with
  | cons r1 r2 =>
   obtain ⟨t,rfl⟩:=r1;obtain ⟨as,q⟩:=iF r2;exact ⟨_,.cons (.int n t) q⟩
mutual
theorem Rep.reads (I:Inv X f' σ H s):∀ (d:Dv) (v:V) (u:d_),Rep X.K H d v→RelV v u→(bP d).canLay0=b_→∃ as,Reads s.heap u (bP d) as
 | .non,v,u,r,q,hz0=>by cases (show v=.non from r); cases (show u=FF from q); exact ⟨_,.none⟩
 | .bl b,v,u,r,q,hz0=>by cases (show v=.bl b from r); cases (show u=Gb b from q); exact ⟨_,.bool b⟩
 | .int i,v,u,r,q,hz0=>by cases (show v=.int i from r); obtain ⟨t,rfl⟩:=(show ∃ t,u=LY i t from q); exact ⟨_,.int i t⟩
 | .str x,v,u,r,q,hz0=>by cases (show v=.str x from r); obtain ⟨t,rfl⟩:=(show ∃ t,u=Hr x t from q); exact ⟨_,.str x t⟩
 | .tup ds,v,u,r,q,hz0=>by
  obtain ⟨a,xs,rfl,h,rs⟩:=r.tupE;cases (show u=w_ a from q);obtain ⟨its,rv,⟨o,e,c,n,d⟩,hz⟩:=I.tuple (SqT.of h);obtain ⟨as,ra⟩:=Reps.reads I ds xs its rs rv (by simpa [bP,F8] using hz0);exact ⟨as,.tuple e c d (by simpa using ra)⟩
 | .lst ds,v,u,r,q,hz0=>by
  obtain ⟨a,xs,rfl,h,rs⟩:=r.lstE;cases (show u=w_ a from q);obtain ⟨z,its,n,rv,hl,e⟩:=I.lstM h;obtain ⟨as,ra⟩:=Reps.reads I ds xs its rs rv (by simpa [bP,F8] using hz0);exact ⟨a :: as,.list e rfl rfl (by simpa using ra)⟩
 | .scr ns,v,u,r,q,hz0=>by
  obtain ⟨a,rfl,h⟩:=r.scrE;cases (show u=w_ a from q);obtain ⟨its,rv,⟨o,n,e,c,hd,d⟩,hz⟩:=I.list h;obtain ⟨as,ra⟩:=iF (s:=s) rv;exact ⟨a :: as,.list e c d (by simpa using ra)⟩
 | .exn c,v,u,r,q,hz0=>by simp [bP,F8] at hz0
theorem Reps.reads (I:Inv X f' σ H s):∀ (ds:List Dv) (vs:List V) (us:List d_),Reps X.K H ds vs→Vals vs us→F6 (toPys ds)=b_→∃ as,ReadsAll s.heap us (toPys ds) as
 | [],vs,us,r,q,_=>by cases (show vs=[] from r); cases q; exact ⟨_,.nil⟩
 | d :: ds,vs,us,r,q,hz0=>by
  obtain ⟨v,ws,rfl,r1,r2⟩:∃ v us,vs=v :: us∧Rep X.K H d v∧Reps X.K H ds us:=r;cases q with
  | cons q1 q2 =>
   have hz1:(bP d).canLay0=b_∧F6 (toPys ds)=b_:=by simpa [toPys,F6] using hz0
   obtain ⟨as,a⟩:=Rep.reads I d v _ r1 q1 hz1.1;obtain ⟨bs,b⟩:=Reps.reads I ds ws _ r2 q2 hz1.2;exact ⟨_,.cons a b⟩
end
end
section
variable {X:Cx}
def okP (d:Dv):Bool:=SeqAt.shaped (bP d)
def rPy (X:Cx) (neg:Bool):R2:=fun x y H Q=>∃ dx dy,Rep X.K H dx x∧Rep X.K H dy y∧okP dx=b_∧okP dy=b_∧Q (.bl (if neg then !FH (bP dx) (bP dy) else FH (bP dx) (bP dy))) H
theorem yK (hu:X.A.units + 64 < cLine):OpR X (Fp .Eq) (rPy X c_):=by
 intro f' s σ H x y v u Q I rx ry h;obtain ⟨dx,dy,qx,qy,hx,hy,q⟩:=h;obtain ⟨as,ra⟩:=Rep.reads I dx x v qx rx (Fz.mp hx).1;obtain ⟨bs,rb⟩:=Rep.reads I dy y u qy ry (Fz.mp hy).1;exact SeqAt.compareEq_shaped ra rb hx hy hu ⟨.bl _,H,I,rfl,q⟩
theorem yL (hu:X.A.units + 64 < cLine):OpR X (Fp .NotEq) (rPy X b_):=by
 intro f' s σ H x y v u Q I rx ry h;obtain ⟨dx,dy,qx,qy,hx,hy,q⟩:=h;obtain ⟨as,ra⟩:=Rep.reads I dx x v qx rx (Fz.mp hx).1;obtain ⟨bs,rb⟩:=Rep.reads I dy y u qy ry (Fz.mp hy).1;exact SeqAt.compareNe_shaped ra rb hx hy hu ⟨.bl _,H,I,rfl,q⟩
def eqX (x y:Dv):Option (Rs Dv):=match eqS x y with
 | some b=>some (.ok (.bl b))
 | none=>if okP x && okP y then some (.ok (.bl (FH (bP x) (bP y)))) else none
def neX (x y:Dv):Option (Rs Dv):=match eqS x y with
 | some b=>some (.ok (.bl (!b)))
 | none=>if okP x && okP y then some (.ok (.bl (!FH (bP x) (bP y)))) else none
def DM (X:Cx):R2:=fun x y H Q=>rEq x y H Q∨rPy X c_ x y H Q
def DN (X:Cx):R2:=fun x y H Q=>rNe x y H Q∨rPy X b_ x y H Q
theorem yM (hu:X.A.units + 64 < cLine):OpR X (Fp .Eq) (DM X):=op_eq.or (yK hu)
theorem Cf (hu:X.A.units + 64 < cLine):OpR X (Fp .NotEq) (DN X):=op_ne.or (yL hu)
theorem yN:GOp X (DM X) eqX:=by
 intro dx dy x y H Q rx ry o;unfold eqX at o;split at o
 · rename_i b hb;obtain ⟨h1,h2⟩:=tK rx ry hb;exact .inl ⟨h1,by rw [h2]; exact o _ H (.refl H) rfl⟩
 · split at o
   · rename_i hc;rw [i_] at hc;exact .inr ⟨dx,dy,rx,ry,hc.1,hc.2,o _ H (.refl H) rfl⟩
   · exact o.elim
theorem Cg:GOp X (DN X) neX:=by
 intro dx dy x y H Q rx ry o;unfold neX at o;split at o
 · rename_i b hb;obtain ⟨h1,h2⟩:=tK rx ry hb;exact .inl ⟨h1,by rw [h2]; exact o _ H (.refl H) rfl⟩
 · split at o
   · rename_i hc;rw [i_] at hc;exact .inr ⟨dx,dy,rx,ry,hc.1,hc.2,o _ H (.refl H) rfl⟩
   · exact o.elim
def ltX:Dv→Dv→Option (Rs Dv)
 | .int i,.int j=>some (.ok (.bl (h_ (i < j))))
 | .str x,.str y=>some (.ok (.bl (h_ (x.cps.toList < y.cps.toList))))
 | _,_=>none
def DO:R2:=fun x y H Q=>rI0 (fun i j=>.bl (h_ (i < j))) x y H Q∨∃ i j,x=.str i∧y=.str j∧Q (.bl (h_ (i.cps.toList < j.cps.toList))) H
theorem Ch:OpR X (Fp .Lt) DO:=op_lt.or nZ
theorem Ci:GOp X DO ltX:=by
 intro dx dy x y H Q rx ry o;cases dx <;> cases dy <;> try exact (show False from o).elim
 · rename_i i j;exact .inl ⟨i,j,rx,ry,o _ H (.refl H) rfl⟩
 · rename_i i j;exact .inr ⟨i,j,rx,ry,o _ H (.refl H) rfl⟩
theorem jO:∀ (ps:List Str) (k:Nat),Vals (ps.map V.str) (strsFrom k ps)
 | [],_=>.nil
 | p :: ps,k=>.cons ⟨k,rfl⟩ (jO ps (k + 1))
theorem jP {K:ck} {H:Hp}:∀ ps:List Str,Reps K H (ps.map Dv.str) (ps.map V.str)
 | []=>rfl
 | p :: ps=>⟨.str p,ps.map V.str,rfl,rfl,jP ps⟩
def bc:Str→List Dv→Option (Rs Dv)
 | x,[.str y]=>if y.length≠0∧x.length≤100000∧(u_ x y).length≤100000 then some (.ok (.lst ((u_ x y).map Dv.str))) else none
 | _,_=>none
def tN:V→List V→Hp→VK→Prop:=fun x xs H Q=>∃ i j,x=.str i∧xs=[.str j]∧j.length≠0∧i.length≤sizeLine∧(u_ i j).length≤sizeLine∧∀ p,H p=none→Q (.ref p) (upd H p (.lst ((u_ i j).map V.str)))
theorem rA:MtR X "str.split" tN:=by
 intro f' s σ H x xs v us Q I rx rs h;obtain ⟨i,j,rfl,rfl,hj,hi,hn,q⟩:=h;obtain ⟨t,rfl⟩:=rx;obtain ⟨u,rfl,ru⟩:=gw rs;obtain ⟨t',rfl⟩:=ru;have hy:(j.length == 0)=c_:=by simpa using hj
 have one:∀ {s':e_},s'={ s with heap:=s.heap.push { cls:=.type "list",data:=.seq [Hr i t].toArray } }→u_ i j=[i]→EP X f' σ Q (.ref s.heap.objs.size) s':=fun e e2=>by
  subst e;rw [e2] at q;exact ⟨.ref _,_,I.lnew (its:=[Hr i t]) (ys:=[V.str i]) (t':=s.toks) (.cons ⟨t,rfl⟩ .nil) (by show 1≤sizeLine; decide),rfl,q _ I.fresh⟩
 cases h1:(h_ (i.length < j.length) || h_ (GD i < GD j))
 · cases hf:(FM i j 0 i.length (i.length + 1)).isEmpty
   · have e2:u_ i j=Builtin.Str.partsBetween i (FM i j 0 i.length (i.length + 1)) j.length:=by
      unfold u_;rw [if_neg (by rw [h1]; exact n_),if_neg (by rw [hf]; exact n_)]
     rw [e2] at q hn;refine I0 HS (Ip _ _ _) Ju (Jf _ _) (meets_str_split_sep i j t t' h1 hy hf hi hn) ?_;exact ⟨.ref _,_,I.lnew (t':=_) (jO _ _) (by rw [s_]; exact hn),rfl,q _ I.fresh⟩
   · refine I0 HS (Ip _ _ _) Ju (Jf _ _) (meets_str_split_not_found i j t t' h1 hy hf) ?_;exact one rfl (by unfold u_; rw [if_neg (by rw [h1]; exact n_),if_pos hf])
 · refine I0 HS (Ip _ _ _) Ju (Jf _ _) (meets_str_split_cannot_occur i j t t' h1) ?_;exact one rfl (by unfold u_; rw [if_pos h1])
theorem vb (i:Str) (ds:List Dv) (vs:List V) (H:Hp) (Q:VK) (rs:Reps X.K H ds vs) (o:Out X H (bc i ds) Q):tN (.str i) vs H Q:=by
 unfold bc at o;split at o
 · rename_i j;split at o
   · rename_i hc;obtain ⟨w,rfl,rw'⟩:=eJ rs;cases (show w=.str j from rw');exact ⟨i,j,rfl,rfl,hc.1,br hc.2.1,br hc.2.2,fun p hp=>o _ _ (aA hp _) ⟨p,_,rfl,ar,jP _⟩⟩
   · exact o.elim
 · exact o.elim
def texts:List Dv→Option (List Str)
 | []=>some []
 | .str x :: r=>(match texts r with | some xs=>some (x :: xs) | none=>none)
 | _=>none
def cH:Str→List Dv→Option (Rs Dv)
 | x,[.lst ds]=>(match texts ds with
  | some ts=>if Le x ts=b_ then some (.ok (.str (Gy x ts))) else none
  | none=>none)
 | _,_=>none
def yO (K:ck):V→List V→Hp→VK→Prop:=fun x xs H Q=>∃ i a vs ds ts,x=.str i∧xs=[.ref a]∧H a=some (.lst vs)∧Reps K H ds vs∧texts ds=some ts∧Le i ts=b_∧Q (.str (Gy i ts)) H
theorem iG {K:ck} {H:Hp}:∀ {ds:List Dv} {vs:List V} {us:List d_} {ts:List Str},Reps K H ds vs→Vals vs us→texts ds=some ts→∃ l:List (Str×Tok),us=strValues l∧l.map (·.1)=ts
 | [],vs,us,ts,r,q,h=>by
  cases (show vs=[] from r);cases q;cases h;exact ⟨[],rfl,rfl⟩
 | d :: ds,vs,us,ts,r,q,h=>by
  obtain ⟨v,ws,rfl,r1,r2⟩:∃ v us,vs=v :: us∧Rep K H d v∧Reps K H ds us:=r;cases q with
  | cons q1 q2 =>
   cases d <;> try (cases h; done)
   rename_i b;simp only [texts] at h;cases hb:texts ds with
   | none=>rw [hb] at h; cases h
   | some bs' =>
    rw [hb] at h;cases h;cases (show v=.str b from r1);obtain ⟨t,rfl⟩:=q1;obtain ⟨l,e1,e2⟩:=iG r2 q2 hb;exact ⟨(b,t) :: l,by rw [e1]; rfl,by rw [Fe,e2]⟩
theorem vc:MtR X "str.join" (yO X.K):=by
 intro f' s σ H x xs v us Q I rx rs h;obtain ⟨i,a,vs,ds,ts,rfl,rfl,h1,h2,h3,h4,q⟩:=h;obtain ⟨t,rfl⟩:=rx;obtain ⟨u,rfl,ru⟩:=gw rs;cases ru;obtain ⟨z,its,n,rv,hl,e⟩:=I.lstM h1;obtain ⟨l,e1,e2⟩:=iG h2 rv h3;subst e1;exact SC.join ⟨_,e,rfl,_,rfl⟩ e2 h4 fun t' k=>⟨.str _,H,I.tok _,⟨_,rfl⟩,q⟩
theorem yP (i:Str) (ds:List Dv) (vs:List V) (H:Hp) (Q:VK) (rs:Reps X.K H ds vs) (o:Out X H (cH i ds) Q):yO X.K (.str i) vs H Q:=by
 unfold cH at o;split at o
 · rename_i es;split at o
   · rename_i ts ht;split at o
     · rename_i hj;obtain ⟨w,rfl,rw'⟩:=eJ rs;obtain ⟨a,xs,rfl,h1,h2⟩:=rw'.lstE;exact ⟨i,a,xs,es,ts,rfl,rfl,h1,h2,ht,hj,o _ H (.refl H) rfl⟩
     · exact o.elim
   · exact o.elim
 · exact o.elim
def kW:Str→List Dv→Option (Rs Dv)
 | x,[.str y]=>if y.length≠0∧x.length≤100000 then some (.ok (.tup [.str (Fa x y).1,.str (Fa x y).2.1,.str (Fa x y).2.2])) else none
 | _,_=>none
def yQ:V→List V→Hp→VK→Prop:=fun x xs H Q=>∃ i j,x=.str i∧xs=[.str j]∧j.length≠0∧i.length≤sizeLine∧∀ p,H p=none→Q (.ref p) (upd H p (.tup [.str (Fa i j).1,.str (Fa i j).2.1,.str (Fa i j).2.2]))
theorem vd:MtR X "str.partition" yQ:=by
 intro f' s σ H x xs v us Q I rx rs h;obtain ⟨i,j,rfl,rfl,hj,hi,q⟩:=h;obtain ⟨t,rfl⟩:=rx;obtain ⟨u,rfl,ru⟩:=gw rs;obtain ⟨t',rfl⟩:=ru;have hy:(j.length == 0)=c_:=by simpa using hj
 have fin:∀ (a b c:Str) (ta tb tc:Tok) (k:Nat),Fa i j=(a,b,c)→EP X f' σ Q (.ref s.heap.objs.size) { s with toks:=k,heap:=s.heap.push { cls:=.type "tuple",data:=.seq [Hr a ta,.str b tb,.str c tc].toArray } }:=fun a b c ta tb tc k e=>by
  rw [e] at q;refine ⟨.ref _,_,I.laid (t':=k) (fun b u e=>on _ e) (p_ _) ?_,rfl,q _ I.fresh⟩;exact ⟨by show 3≤sizeLine; decide,[Hr a ta,.str b tb,.str c tc],.cons ⟨_,rfl⟩ (.cons ⟨_,rfl⟩ (.cons ⟨_,rfl⟩ .nil)),⟨_,EY _ rfl,rfl,_,rfl⟩⟩
 refine I0 JK (Ip _ _ _) F.entry_str_partition (F.args_str_partition_2 _ _) (meets_str_partition i j t t' hy hi) ?_;cases ho:FM i j 0 i.length 1 with
 | nil=>exact fin _ _ _ _ _ _ _ (by unfold Fa; rw [ho])
 | cons k r=>exact fin _ _ _ _ _ _ _ (by unfold Fa; rw [ho])
theorem yR (i:Str) (ds:List Dv) (vs:List V) (H:Hp) (Q:VK) (rs:Reps X.K H ds vs) (o:Out X H (kW i ds) Q):yQ (.str i) vs H Q:=by
 unfold kW at o;split at o
 · rename_i j;split at o
   · rename_i hc;obtain ⟨w,rfl,rw'⟩:=eJ rs;cases (show w=.str j from rw');exact ⟨i,j,rfl,rfl,hc.1,br hc.2,fun p hp=>o _ _ (aA hp _) ⟨p,_,rfl,ar,⟨_,_,rfl,rfl,_,_,rfl,rfl,_,_,rfl,rfl,rfl⟩⟩⟩
   · exact o.elim
 · exact o.elim
variable {p pos:Pos} {e:D_} {es:List D_} {ga:FnA}
def dO:List Dv→Option (Rs Dv)
 | [.lst xs]=>some (.ok (.tup xs))
 | [.tup xs]=>some (.ok (.tup xs))
 | _=>none
theorem rB (hg:Gl X "tuple") (hm:X.mg "tuple"=none) (ha:FA X (e :: es) ga) (he:j_ (e :: es) X.env=(c_,eval e X.env) :: j_ es X.env:=by kernel_rfl) (hpl:(FV pos (j_ es X.env)).any (·.1)=c_:=by kernel_rfl):FE X (.Call (.Name "tuple" p) (e :: es) [] pos) (fB1 dO ga) :=
 bR (fz iT hg hm (by decide +kernel) ha.h (by decide) (by decide) he hpl) fun σ H Q ρ E o=>⟨ρ,E,OutA.bind o fun ds vs H1 e1 rs o1=>by
  unfold dO at o1;split at o1
  · rename_i xs;obtain ⟨v,rfl,r⟩:=eJ rs;obtain ⟨a,ws,rfl,h1,h2⟩:=r.lstE;exact ⟨a,ws,rfl,.inl ⟨SqL.of h1,fun l hl=>o1 _ _ (aA hl _) ⟨l,ws,rfl,ar,Reps.mono (aA hl _) _ _ h2⟩⟩⟩
  · rename_i xs;obtain ⟨v,rfl,r⟩:=eJ rs;obtain ⟨a,ws,rfl,h1,h2⟩:=r.tupE;exact ⟨a,ws,rfl,.inr ⟨SqT.of h1,o1 _ H1 (.refl H1) ⟨a,ws,rfl,h1,h2⟩⟩⟩
  · exact o1.elim⟩
end
section
variable {X:Cx} {apos cpos:Pos} {e o:D_} {es:List D_} {ga:FnA} {fo:FnE}
end
structure FG (X:Cx) (tg:D_) (b:Dv→Ev→Option Ev):Prop where
 h:∀ (f':List (k_×Obj)) (s:e_) (σ:L2.St) (H:Hp) (v:V) (u:d_) (d:Dv) (ρ ρ':Ev),Inv X f' σ H s→RelV v u→Rep X.K H d v→Envs X.K H σ ρ→b d ρ=some ρ' →
  C_ (A_ X.prog X.w) X.A (JV tg X.env u) (fun _ s'=>∃ σ' H',Inv X f' σ' H' s'∧Same H H'∧Envs X.K H' σ' ρ') X.xe s
def gN (i:Nat):Dv→Ev→Option Ev:=fun d ρ=>some (ρ.set i (some d))
section
variable {X:Cx} {pos p1 p2:Pos}
theorem ve (i:Nat) {x:Str} (hN:X.N.Nodup) (hi:X.N[i]?=some x) (hx:Loc X.env.scope x) (hf:X.fn x=b_∨X.env.scope.names.lookup x=some .local):FG X (.Name x pos) (gN i) :=
 ⟨fun f' s σ H v u d ρ ρ' I r rd E e=>by
  cases e;exact thn (gP hN hi hx hf f' s σ H v u (fun σ' H'=>H'=H∧σ'=σ.set i (some v)) I r ⟨rfl,rfl⟩) fun _ s' ⟨σ',H',I',e1,e2⟩=>by
   subst e1 e2;exact ⟨_,_,I',.refl _,E.set rd⟩⟩
end
structure WkG (K:ck) (J:It) (ds:List Dv) (H0:Hp):Prop where
 go:∀ i H,Same H0 H→i < ds.length→J.go i H
 stop:∀ H,Same H0 H→J.stop ds.length H
 yld:∀ i H x H',Same H0 H→i < ds.length→J.yld i H x H'→Same H H'∧∃ d,ds[i]?=some d∧Rep K H' d x
theorem Wk.toG {K:ck} {J:It} {ds:List Dv} {H0:Hp} (w:Wk K J ds H0):WkG K J ds H0 :=
 ⟨w.go,w.stop,fun i H x H' e hi y=>by
  obtain ⟨rfl,d,h1,h2⟩:=w.yld i H x H' e hi y;exact ⟨.refl _,d,h1,h2⟩⟩
def OutG (X:Cx) (H:Hp) (o:Option (Rs (List Dv))) (R:It→Hp→Prop):Prop:=match o with
 | none=>False
 | some (.exc c)=>XW X c H
 | some (.ok ds)=>∀ J H',Same H H'→WkG X.K J ds H'→R J H'
theorem OutG.mono {X:Cx} {H H':Hp} {R:It→Hp→Prop} (e:Same H H'):∀ {o:Option (Rs (List Dv))},OutG X H o R→OutG X H' o R
 | none,h=>h
 | some (.exc _),h=>XW.mono h e
 | some (.ok _),h=>fun v H1 e1 r=>h v H1 (e.trans e1) r
structure FIG (X:Cx) (tg iter:D_) (f:FnA):Prop where
 h:PI X tg iter fun σ H R=>∃ ρ,Envs X.K H σ ρ∧OutG X H (f ρ) R
theorem FI.toG {X:Cx} {tg iter:D_} {f:FnA} (h:FI X tg iter f):FIG X tg iter f :=
 ⟨fun f' s σ H R I ⟨ρ,E,o⟩=>h.h f' s σ H R I ⟨ρ,E,by
  match hf:f ρ,o with
  | some (.exc c),o=>exact o
  | some (.ok ds),o=>exact fun J H' e w=>o J H' e w.toG⟩⟩
def fT (m:Nat) (cs:List (Str×Nat)) (ρ:Ev):Ev:=E6 m none ++ cs.map fun c=>(ρ[c.2]?).join
def jQ (b:Dv→Ev→Option Ev) (tst:Option FnB) (elt:FnE) (cap:Ev):List Dv→Option (List Dv)
 | []=>some []
 | d :: ds=>match b d cap with
  | none=>none
  | some ρ=>match (match tst with | none=>(some (.ok b_):Option (Rs Bool)) | some t=>t ρ) with
   | some (.ok b_)=>(match elt ρ with
    | some (.ok y)=>(match jQ b tst elt cap ds with | some ys=>some (y :: ys) | none=>none)
    | _=>none)
   | some (.ok c_)=>jQ b tst elt cap ds
   | _=>none
def jR (m:Nat) (cs:List (Str×Nat)) (σ:L2.St):L2.St:=E6 m none ++ cs.map fun c=>(σ[c.2]?).join
theorem jS {α:Type} {m i:Nat} {v:α} {l:List (Option α)} (h:(E6 m (none:Option α) ++ l)[i]?=some (some v)):∃ k,i=m + k∧l[k]?=some (some v):=by
 by_cases hi:i < m
 · rw [FQ (by simpa using hi),G4,if_pos hi] at h;cases h
 · refine ⟨i - m,by omega,?_⟩;rw [FN (by simpa using hi)] at h;simpa using h
theorem oK {K:ck} {H:Hp} {σ:L2.St} {ρ:Ev} (m:Nat) (cs:List (Str×Nat)) (E:Envs K H σ ρ):Envs K H (jR m cs σ) (fT m cs ρ):=by
 refine ⟨by simp [jR,fT],fun i d h=>?_⟩;obtain ⟨k,rfl,hk⟩:=jS h;rw [Fh] at hk;cases hc:cs[k]? with
 | none=>rw [hc] at hk; simp at hk
 | some c =>
  rw [hc] at hk;simp only [HB,LH] at hk;have h2:ρ[c.2]?=some (some d):=by
   cases q:ρ[c.2]? with
   | none=>rw [q] at hk; simp at hk
   | some o=>rw [q] at hk; simp at hk; rw [hk]
  obtain ⟨v,h3,h4⟩:=E.at' c.2 d h2;refine ⟨v,?_,h4⟩;unfold jR;rw [FN (by simp)];simp only [GI,JO,Fh,hc,HB,h3];rfl
theorem jT {prog:pi} {w:EO} {A:EQ} {R:Ld→e_→Prop} {s:e_} {elt target iter:D_} {ifs:List D_} {scope:GB} {pos:Pos} {it acc:d_} {env:Env} (I:Nat→e_→Prop)
 (turn:∀ n s,I n s→C_ (A_ prog w) A (pyNext it) (fun r s₁=>match r with
   | none=>R (.ok .next) s₁
   | some v=>C_ (A_ prog w) A (IE target it v) (fun _ s₀=>C_ (A_ prog w) A (JV target env v) (fun _ s₂ =>
    C_ (A_ prog w) A (forIn ifs b_ fun c r=>if r=b_ then do let ok ← isTrue c env (eval c env); pure (Mq ok) else pure (Mq r)) (fun ok s₃ =>
     if ok=b_ then C_ (A_ prog w) A (eval elt env) (fun x s₄ =>
      C_ (A_ prog w) A (call (.builtin "list.append") [acc,x]) (fun _ s₅=>∃ m,m < n∧I m s₅) (JT (A_ prog w) A env fun e s'=>R (.error e) s') s₄) (JT (A_ prog w) A env fun e s'=>R (.error e) s') s₃
     else ∃ m,m < n∧I m s₃) (JT (A_ prog w) A env fun e s'=>R (.error e) s') s₂) (JT (A_ prog w) A env fun e s'=>R (.error e) s') s₀) (JT (A_ prog w) A env fun e s'=>R (.error e) s') s₁) (JT (A_ prog w) A env fun e s'=>R (.error e) s') s)
 (n:Nat) (h:I n s) :
 HW (A_ prog w) A (.compLoop (.ListComp elt [⟨target,iter,ifs,0⟩] scope pos) 0 it acc env) R s:=by
 refine codeAny_loop rfl I (fun n s hI=>?_) n h;show C_ _ A ((compTurn (.ListComp elt [⟨target,iter,ifs,0⟩] scope pos) 0 it acc env).onRaise (fun x=>do LW x env; theTreesLotGoes x)) _ _ s
 refine wpAny_noted ?_;rw [compTurn_list];refine ge (KZ (ge (FR (turn n s hI) (fun r s₁ h₁=>?_) fun _ _ h'=>h')));cases r with
 | none=>exact m_ h₁
 | some v =>
  refine ge (FR h₁ (fun _ s₀ h₀=>?_) fun _ _ h'=>h');refine ge (FR h₀ (fun _ s₂ h₂=>ge (FR h₂ (fun ok s₃ h₃=>?_) fun _ _ h'=>h')) fun _ _ h'=>h');cases ok with
  | false =>
   rw [if_neg n_] at h₃
   first
    | exact ge (m_ (m_ ⟨rfl,h₃⟩))
    | exact m_ ⟨rfl,h₃⟩
    | (show C_ _ _ (again _) _ _ _; exact m_ ⟨rfl,h₃⟩)
  | true =>
   rw [if_pos rfl] at h₃
   first
    | exact ge (ge (FR h₃ (fun x s₄ h₄=>ge (FR h₄ (fun _ s₅ h₅=>m_ (m_ ⟨rfl,h₅⟩)) fun _ _ h'=>h')) fun _ _ h'=>h'))
    | exact ge (FR h₃ (fun x s₄ h₄=>ge (FR h₄ (fun _ s₅ h₅=>m_ ⟨rfl,h₅⟩) fun _ _ h'=>h')) fun _ _ h'=>h')
def cK (m:Nat) (cs:List (Str×Nat)) (src:FnA) (b:Dv→Ev→Option Ev) (tst:Option FnB) (elt:FnE):FnE:=fun ρ=>bnd (src ρ) fun ds=>match jQ b tst elt (fT m cs ρ) ds with
 | some ys=>if ys.length≤100000∧ds.length≤100000 then some (.ok (.lst ys)) else none
 | none=>none
theorem Cj {m:Nat} {cs:List (Str×Nat)} {src:FnA} {b:Dv→Ev→Option Ev} {tst:Option FnB} {fe:FnE} {ρ:Ev} {o:Rs Dv} (h:cK m cs src b tst fe ρ=some o) :
 (∃ c,src ρ=some (.exc c)∧o=.exc c)∨∃ ds ys,src ρ=some (.ok ds)∧jQ b tst fe (fT m cs ρ) ds=some ys∧ds.length≤100000∧ys.length≤100000∧o=.ok (.lst ys):=by
 unfold cK at h
 match hf:src ρ with
 | none=>rw [hf] at h; cases h
 | some (.exc c)=>rw [hf] at h; cases h; exact .inl ⟨c,rfl,rfl⟩
 | some (.ok ds) =>
  rw [hf] at h;dsimp only [bnd] at h
  match hm:jQ b tst fe (fT m cs ρ) ds with
  | none=>rw [hm] at h; cases h
  | some ys =>
   rw [hm] at h;dsimp only at h;split at h
   · rename_i hl;cases h;exact .inr ⟨ds,ys,rfl,hm,hl.2,hl.1,rfl⟩
   · cases h
theorem yS (cs:List (Str×Nat)) (ρ:Ev) (d:Dv) (ρ':Ev) (h:gN 0 d (fT 1 cs ρ)=some ρ'):fgt [0] ρ'=fT 1 cs ρ:=by
 cases h;rfl
section
variable {X:Cx} {pos p1:Pos}
end
theorem ao {a b:FnS} {ρ ρ':Ev} (h:a ρ=some (.nx ρ')):aG a b ρ=b ρ':=by
 unfold aG; rw [h]; rfl
theorem iX {a b:FnS} {ρ:Ev} {d:Dv} (h:a ρ=some (.rt d)):aG a b ρ=some (.rt d):=by
 unfold aG; rw [h]; rfl
theorem cf {c:FnB} {f:FnS} {ρ:Ev} (h:c ρ=some (.ok c_)):bZ c f (fun ρ=>some (.nx ρ)) ρ=some (.nx ρ):=by
 unfold bZ; rw [h]; rfl
theorem aB {i:Nat} {v:FnE} {ρ ρ':Ev} {d:Dv} (h:v ρ=some (.ok d)) (e:ρ.set i (some d)=ρ'):bn i v ρ=some (.nx ρ'):=by
 unfold bn; rw [h,← e]; rfl
theorem rD {v:FnE} {ρ:Ev} {d:Dv} (h:v ρ=some (.ok d)):gy v ρ=some (.nx ρ):=by
 unfold gy; rw [h]; rfl
theorem aV {v:FnE} {ρ:Ev} {d:Dv} (h:v ρ=some (.ok d)):bb v ρ=some (.rt d):=by
 unfold bb; rw [h]; rfl
theorem oM {i:Nat} {js:List Nat} {src:FnA} {body:FnS} {ρ:Ev} {ds:List Dv} (h:src ρ=some (.ok ds)):jL i js src body ρ=gW i js body ds ρ:=by
 unfold jL; rw [h]; rfl
theorem oN {a b:FnB} {ρ:Ev} (h:a ρ=some (.ok c_)):bOr a b ρ=b ρ:=by unfold bOr; rw [h]; rfl
theorem rE {a b:FnB} {ρ:Ev} (h:a ρ=some (.ok b_)):bOr a b ρ=some (.ok b_):=by unfold bOr; rw [h]; rfl
theorem yT {a b:FnB} {ρ:Ev} (h:a ρ=some (.ok b_)):kz a b ρ=b ρ:=by unfold kz; rw [h]; rfl
theorem yU {a b:FnB} {ρ:Ev} (h:a ρ=some (.ok c_)):kz a b ρ=some (.ok c_):=by unfold kz; rw [h]; rfl
theorem bS {a:FnB} {ρ:Ev} {k:Bool} (h:a ρ=some (.ok k)):dL a ρ=some (.ok (!k)):=by unfold dL; rw [h]; rfl
theorem aU {f:FnE} {ρ:Ev} {k:Bool} (h:f ρ=some (.ok (.bl k))):fB f ρ=some (.ok k):=by unfold fB; rw [h]; rfl
theorem aq {g:Dv→Dv→Option (Rs Dv)} {f h:FnE} {ρ:Ev} {x y:Dv} (hf:f ρ=some (.ok x)) (hh:h ρ=some (.ok y)):f2 g f h ρ=g x y:=by unfold f2; rw [hf,hh]; rfl
theorem kX {i:Nat} {ρ:Ev} {d:Dv} (h:ρ[i]?=some (some d)):ac i ρ=some (.ok d):=by unfold ac; rw [h]
theorem ae {f:FnE} {g:FnA} {ρ:Ev} {x:Dv} {xs:List Dv} (h:f ρ=some (.ok x)) (t:g ρ=some (.ok xs)):aa f g ρ=some (.ok (x :: xs)):=by unfold aa; rw [h,t]; rfl
theorem ai {ρ:Ev}:ag ρ=some (.ok []):=rfl
theorem cg {F:List Dv→Option (Rs Dv)} {n:Nat} {g:FnA} {ρ:Ev} {ds:List Dv} {d:Dv} (h:g ρ=some (.ok ds)) (hl:ds.length=n) (hF:F ds=some (.ok d)):aj F n g ρ=some (.ok d):=by
 unfold aj; rw [h];show (if _ then _ else _)=_;rw [if_pos hl,hF]
theorem bT (F:List Dv→Option (Rs Dv)) {f:FnE} {ρ:Ev} {a d:Dv} (h:f ρ=some (.ok a)) (hF:F [a]=some (.ok d)):aj F 1 (aa f ag) ρ=some (.ok d):=cg (ae h ai) rfl hF
theorem oO (F:List Dv→Option (Rs Dv)) {f g:FnE} {ρ:Ev} {a b d:Dv} (h:f ρ=some (.ok a)) (h':g ρ=some (.ok b)) (hF:F [a,b]=some (.ok d)):aj F 2 (aa f (aa g ag)) ρ=some (.ok d):=cg (ae h (ae h' ai)) rfl hF
theorem gY {g:FnA} {ρ:Ev} {ds:List Dv} (h:g ρ=some (.ok ds)) (hl:ds.length≤100000):df g ρ=some (.ok (.tup ds)):=by
 unfold df; rw [h];show (if _ then _ else _)=_;rw [if_pos hl]
theorem Ck {f g:FnE} {ρ:Ev} (h:f ρ=some (.ok (.bl c_))):vOr f g ρ=g ρ:=by unfold vOr; rw [h]; rfl
theorem tQ {f g:FnE} {ρ:Ev} (h:f ρ=some (.ok (.bl c_))):ip f g ρ=some (.ok (.bl c_)):=by unfold ip; rw [h]; rfl
theorem tR {f g:FnE} {ρ:Ev} (h:f ρ=some (.ok (.bl b_))):ip f g ρ=g ρ:=by unfold ip; rw [h]; rfl
theorem aW {g:List Dv→Option (Rs Dv)} {a:FnA} {ρ:Ev} {ds:List Dv} (h:a ρ=some (.ok ds)):fB1 g a ρ=g ds:=by unfold fB1; rw [h]; rfl
theorem yV {g:Dv→Option (Rs Dv)} {f:FnE} {ρ:Ev} {x:Dv} (h:f ρ=some (.ok x)):f1 g f ρ=g x:=by unfold f1; rw [h]; rfl
theorem yW {c:FnB} {f g:FnE} {ρ:Ev} (h:c ρ=some (.ok b_)):fIf c f g ρ=f ρ:=by unfold fIf; rw [h]; rfl
theorem yX {c:FnB} {f g:FnE} {ρ:Ev} (h:c ρ=some (.ok c_)):fIf c f g ρ=g ρ:=by unfold fIf; rw [h]; rfl
theorem dX {g:FnA} {ρ:Ev} {ds:List Dv} (h:g ρ=some (.ok ds)) (hl:ds.length≤100000):bD g ρ=some (.ok (.lst ds)):=by
 unfold bD; rw [h];show (if _ then _ else _)=_;rw [if_pos hl]
theorem bi {n:Nat} {B:FnS} {ds:List Dv} {d:Dv} (h:B (ds.map some ++ E6 (n - ds.length) none)=some (.rt d)):c8 n B ds=some (.ok d):=by
 unfold c8; rw [h]
section
variable {prog:pi} {w:EO} {A:EQ} {E:d_→e_→Prop}
end
section
variable {X:Cx} {pos p1:Pos}
end
structure Aft (X:Cx) (e:k_) (Ts:List k_) (h h':Fg):Prop where
 keep:∀ b o,h.get? b=some o→b≠e→b ∉ Ts→b ∉ frs X.stack→h'.get? b=some o
 slot:∀ b o,h.get? b=some o→b∈frs X.stack→∃ sl,h'.get? b=some { o with slots:=sl }
section
variable {X:Cx} {f':List (k_×Obj)} {σ:L2.St} {H:Hp} {s:e_} {e:k_} {Ts:List k_} {h':Fg}
theorem Aft.any {h:Fg} (A:Aft X e Ts h h') {b:k_} {o:Obj} (q:h.get? b=some o) (n1:b≠e) (n2:b ∉ Ts):∃ sl,h'.get? b=some { o with slots:=sl }:=by
 by_cases hb:b∈frs X.stack
 · exact A.slot b o q hb
 · exact ⟨o.slots,A.keep b o q n1 n2 hb⟩
theorem Inv.aft (I:Inv X f' σ H s) (A:Aft X e Ts s.heap h') (hex:X.ex=[]) (hf:∀ b,b=e∨b∈Ts→H b=none∧X.s₀.heap.get? b=none∧(∀ p∈X.pn ++ f',p.1≠b)∧∃ o vs,s.heap.get? b=some o∧o.data=.fields vs) :
 Inv X f' σ H { s with heap:=h' }:=by
 have nE:∀ b,H b≠none→b≠e∧b ∉ Ts:=fun b hb=>⟨fun z=>hb (hf b (.inl z)).1,fun z=>hb (hf b (.inr z)).1⟩;have n0:∀ b o,X.s₀.heap.get? b=some o→b≠e∧b ∉ Ts:=fun b o hb=>⟨fun z=>(by simp:(some o:Option Obj)≠none) (hb.symm.trans (hf b (.inl z)).2.1),fun z=>(by simp:(some o:Option Obj)≠none) (hb.symm.trans (hf b (.inr z)).2.1)⟩;have nx:∀ b,b ∉ X.ex:=fun b=>by rw [hex]; simp
 have nD:∀ b o,s.heap.get? b=some o→(∀ vs,o.data≠.fields vs)→b≠e∧b ∉ Ts:=fun b o hb hd =>
  have go:(b=e∨b∈Ts)→False:=fun z=>by
   obtain ⟨o',vs,q,d⟩:=(hf b z).2.2.2;rw [hb] at q;cases q;exact hd vs d
  ⟨fun z=>go (.inl z),fun z=>go (.inr z)⟩
 have nS:∀ b∈frs X.stack,H b=none:=I.stkFree;have cellK:∀ c v,s.heap.IsCell c v→h'.IsCell c v:=fun c v ⟨o,ho,hd⟩=>by
  obtain ⟨n1,n2⟩:=nD c o ho fun vs q=>by rw [hd] at q; cases q
  obtain ⟨sl,q⟩:=A.any ho n1 n2;exact ⟨_,q,hd⟩
 refine ⟨I.ok,I.os,I.bare,⟨fun b o q n hb hx=>?_,fun b o q n hb hx=>?_,I.base.free,fun b o q hx=>?_,I.base.tups,I.base.frzs,I.base.tbls⟩,?_,fun x c q=>?_,I.free,I.freeC,fun p hp=>?_,fun a o q=>?_,I.len⟩
 · have h1:=I.base.keep b o q n hb hx;obtain ⟨n1,n2⟩:=n0 b o q;refine A.keep b o h1 n1 n2 fun z=>?_;rcases q_.mp (I.stkSub b z) with z | z
   · exact absurd z (Fy (y_ (B_ q) I.ok.above))
   · exact hb z
 · obtain ⟨sl,h1⟩:=I.base.slot b o q n hb hx;obtain ⟨n1,n2⟩:=n0 b o q;obtain ⟨sl',h2⟩:=A.any h1 n1 n2;exact ⟨sl',h2⟩
 · obtain ⟨o',h1⟩:=I.base.there b o q hx;obtain ⟨n1,n2⟩:=n0 b o q;obtain ⟨sl,h2⟩:=A.any h1 n1 n2;exact ⟨_,h2⟩
 · obtain ⟨m,⟨o,es,ep,ho,hd,r⟩,hl⟩:=I.loc;obtain ⟨n1,n2⟩:=nD _ o ho fun vs q=>by rw [hd] at q; cases q
   obtain ⟨sl,q⟩:=A.any ho n1 n2;refine ⟨m,⟨_,es,ep,q,hd,r⟩,fun i x v e1 e2 e3=>?_⟩;obtain ⟨u,ru,l⟩:=hl i x v e1 e2 e3;refine ⟨u,ru,?_⟩;rcases l with l | ⟨k,c,ec,z⟩
   · exact .inl l
   · exact .inr ⟨k,c,ec,cellK c _ z⟩
 · obtain ⟨v,z⟩:=I.cell x c q;exact ⟨v,cellK c v z⟩
 · obtain ⟨q,n,ne,nf,d⟩:=I.pin p hp;have n1:p.1≠e:=(hf e (.inl rfl)).2.2.1 p hp;have n2:p.1 ∉ Ts:=fun z=>(hf p.1 (.inr z)).2.2.1 p hp rfl;refine ⟨A.keep p.1 p.2 q n1 n2 fun z=>?_,n,ne,nf,d⟩;rcases q_.mp (I.stkSub _ z) with z | z
   · exact ne z
   · exact nf z
 · refine (I.hok a o q).stay (fun b u hb hu=>?_) (fun _ z=>z) fun _ _ z=>z;have hn:H b≠none:=by
    rcases hb with rfl | hb
    · rw [q]; simp
    · rw [hb]; simp
   exact A.keep b u hu (nE b hn).1 (nE b hn).2 fun z=>hn (nS b z)
abbrev hid (X:Cx) (e:k_) (Ts:List k_) (h:Fg):Fg:=Ml h (e :: (Ts ++ frs X.stack))
theorem lP (I:Inv X f' σ H s) (k:(hid X e Ts s.heap).StaysIn h') (u:∀ b o,s.heap.get? b=some o→(∀ vs,o.data≠.fields vs)→∃ sl,h'.get? b=some { o with slots:=sl }):Aft X e Ts s.heap h' :=
 ⟨fun b o q n1 n2 n3=>k b o (II _ q (by simp only [q_,t_]; rintro (z | z | z); exact n1 z; exact n2 z; exact n3 z)),fun b o q hb=>by
  obtain ⟨_,o',q',d⟩:=I.stack.mem hb;rw [q] at q';cases q';exact u b o q d⟩
theorem iY (I:Inv X f' σ H s):s.heap.FunFrames (hid X e Ts s.heap) X.stack :=
 PySem.W.funFrames_hide I.stack fun env he a hfa=>f_ _ (o_ _ (Gc.mpr ⟨env,he,hfa⟩))
end
section
variable {X:Cx} {f':List (k_×Obj)} {σ:L2.St} {H:Hp} {s:e_} {e:k_} {cls:d_}
theorem Fly.imp {N N':k_→Prop} {h:Fg} (F:Fly N H e cls h) (k:∀ a,N a→N' a):Fly N' H e cls h:=by
 obtain ⟨h1,h2,oe,vs,a0,q1,q2,q3,q4,q5⟩:=F;refine ⟨h1,k _ h2,oe,vs,a0,q1,q2,q3,q4,?_⟩;rcases q5 with q5 | ⟨T,oT,ts,r1,r2,r3,r4,r5⟩
 · exact .inl q5
 · exact .inr ⟨T,oT,ts,r1,r2,r3,k _ r4,r5⟩
theorem tU {h':Fg} {Ts:List k_} (I:Inv X f' σ H s) (hex:X.ex=[]) (he:H e=none∧X.s₀.heap.get? e=none) (hT:∀ T∈Ts,H T=none∧X.s₀.heap.get? T=none) (ff:h'.FunFrames (hid X e Ts s.heap) X.stack)
 {T:k_} {oT:Obj} {ts:Array d_} (hn:(hid X e Ts s.heap).get? T=none) (ne:T≠e) (hg:h'.get? T=some oT) (hd:oT.data=.fields ts):H T=none∧X.s₀.heap.get? T=none:=by
 have nf:T ∉ frs X.stack:=fun z=>by
  obtain ⟨_,o,q,d⟩:=ff.mem z;rw [hg] at q;cases q;exact d ts hd
 have out:T∈Ts∨s.heap.get? T=none:=by
  cases q:s.heap.get? T with
  | none=>exact .inr rfl
  | some o =>
   by_cases hm:T∈Ts
   · exact .inl hm
   · have:=II (e :: (Ts ++ frs X.stack)) q (by simp only [q_,t_]; rintro (z | z | z); exact ne z; exact hm z; exact nf z);rw [hn] at this;cases this
 rcases out with hm | hm
 · exact hT T hm
 · constructor
   · cases q:H T with
     | none=>rfl
     | some u =>
      have hk:=I.hok T u q;exfalso;have:∃ o,s.heap.get? T=some o:=by
       clear q
       induction u with
       | lst xs=>obtain ⟨_,_,_,_,z⟩:=hk; exact ⟨_,z⟩
       | tup xs=>obtain ⟨_,_,_,o,z,_⟩:=hk; exact ⟨_,z⟩
       | dK kvs=>obtain ⟨_,_,_,_,o,_,_,z,_⟩:=hk; exact ⟨_,z⟩
       | dT kvs=>obtain ⟨_,_,_,_,o,_,_,z,_⟩:=hk; exact ⟨_,z⟩
       | set S n=>obtain ⟨o,_,_,_,z,_⟩:=hk; exact ⟨_,z⟩
       | ins C dx fs=>obtain ⟨_,_,_,z,_⟩:=hk; exact ⟨_,z⟩
       | own y=>obtain ⟨_,z⟩:=hk; exact ⟨_,z⟩
       | xd fs=>obtain ⟨_,⟨_,_,_,z,_⟩,_⟩:=hk; exact ⟨_,z⟩
       | rng lo hi=>obtain ⟨_,_,_,z⟩:=hk; exact ⟨_,z⟩
       | frz ob u ih=>obtain ⟨z,_⟩:=hk; exact ⟨_,z⟩
       | tbl ps=>obtain ⟨_,z,_⟩:=hk; exact ⟨_,z⟩
       | met f y=>exact ⟨_,(show s.heap.get? T=some _ from hk)⟩
       | ext φ=>obtain ⟨_,⟨_,z⟩,_⟩:=hk; exact ⟨_,z⟩
      obtain ⟨o,z⟩:=this;rw [hm] at z;cases z
   · cases q:X.s₀.heap.get? T with
     | none=>rfl
     | some o =>
      obtain ⟨o',z⟩:=I.base.there T o q (by rw [hex]; simp);rw [hm] at z;cases z
theorem oP (I:Inv X f' σ H s) (hex:X.ex=[]) (hst:X.stack=X.env :: X.outer) (hfm:X.env.frame=some X.env.locals) (F:Fly (fun a=>X.s₀.heap.get? a=none) H e cls s.heap)
 {Q:Unit→e_→Prop} {E:d_→e_→Prop} (k:∀ h' Ts,Fly (fun a=>X.s₀.heap.get? a=none) H e cls h'→Aft X e Ts s.heap h'→(∀ b,b=e∨b∈Ts→H b=none∧X.s₀.heap.get? b=none∧∃ o vs,s.heap.get? b=some o∧o.data=.fields vs)→Q () { s with heap:=h' }) :
 C_ (A_ X.prog X.w) X.A (leaving X.env (.ref e)) Q E s:=by
 obtain ⟨f1,f2,oe,vs,a0,q1,q2,q3,q4,q5⟩:=F;have hfr:X.A.frames=some (X.env :: X.outer):=hst ▸ I.ok.frames;subst q2;rcases q5 with q5 | ⟨T,oT,ts,r1,r2,r3,r4,r5,r6,r7⟩
 · have b3:s.heap.FunFrames (hid X e [] s.heap) (X.env :: X.outer):=hst ▸ iY I;refine wpAny_leaving_firstW (base:=hid X e [] s.heap) hfr b3 hfm q1 (fun b o z=>G6 _ z) (Ge _ (g_ ..)) q3 q5 q4 fun h' hL=>?_;obtain ⟨k1,k2,⟨oe',vs',T,oT,ts,t1,⟨t2,t3⟩,t4,t5,t6,t7,t8,t9,t10⟩,k4⟩:=hL;have k2':h'.FunFrames (hid X e [] s.heap) X.stack:=hst ▸ k2;have nT:=tU I hex ⟨f1,f2⟩ (fun _ z=>absurd z (by simp)) k2' t6 t7 t8 t9;refine k h' [] ⟨f1,f2,oe',vs',a0,t1,t2,t4,t3,.inr ⟨T,oT,ts,t5,t7,nT.1,nT.2,t8,t9,t10⟩⟩ (lP I k1 k4) fun b hb=>?_;rcases hb with rfl | hb
   · exact ⟨f1,f2,oe,vs,q1,q3⟩
   · cases hb
 · have b3:s.heap.FunFrames (hid X e [T] s.heap) (X.env :: X.outer):=hst ▸ iY I;have ht:s.heap.TracedW (hid X e [T] s.heap) e oe.cls a0:=⟨oe,vs,T,oT,ts,q1,⟨rfl,q4⟩,q3,r1,Ge _ (by simp),r2,r5,r6,r7⟩;refine wpAny_leaving_nextW (base:=hid X e [T] s.heap) hfr b3 hfm ht (fun b o z=>G6 _ z) (Ge _ (g_ ..)) fun h' hL=>?_;obtain ⟨k1,k2,⟨oe',vs',T',oT',ts',t1,⟨t2,t3⟩,t4,t5,t6,t7,t8,t9,t10⟩,k4⟩:=hL;have k2':h'.FunFrames (hid X e [T] s.heap) X.stack:=hst ▸ k2;have nT:=tU I hex ⟨f1,f2⟩ (fun T0 z=>by simp at z; subst z; exact ⟨r3,r4⟩) k2' t6 t7 t8 t9;refine k h' [T] ⟨f1,f2,oe',vs',a0,t1,t2,t4,t3,.inr ⟨T',oT',ts',t5,t7,nT.1,nT.2,t8,t9,t10⟩⟩ (lP I k1 k4) fun b hb=>?_;rcases hb with rfl | hb
   · exact ⟨f1,f2,oe,vs,q1,q3⟩
   · simp at hb;subst hb;exact ⟨r3,r4,oT,ts,r5,r6⟩
end
def CXE (P:pi) (w:EO):CXT:=fun outer H s E ev s'=>∃ e cls H',ev=.ref e∧s'.os=s.os∧IT s'.gens∧Un (frs outer) [] H H' s.heap s'.heap∧HOk P w H' s'.heap∧Fly (fun a=>s.heap.get? a=none) H' e cls s'.heap∧E cls none H'
def spE (K:ck) (F:List Dv→Option (Rs Dv)) (n:Nat):Sp:=fun vs H Q E=>∃ ds,Reps K H ds vs∧ds.length=n∧match F ds with
 | some (.ok d)=>∀ v H',Same H H'→Rep K H' d v→Q v H'
 | some (.exc c)=>∀ C H',GF K x_ (xnm c)=some (some (.ref C))→Same H H'→E (.ref C) none H'
 | none=>False
def EX (X:Cx):XK:=fun cv _ H1=>∃ c C,cv=.ref C∧GF X.K x_ (xnm c)=some (some (.ref C))∧XW X c H1
theorem Cm {X:Cx} (hex:X.ex=[]):jC (CXE X.prog X.w) X (EX X):=by
 intro f' σ H s ev s' I ⟨e,cls,H',he,os,bare,un,hok,F,c,C,hcv,hC,hx⟩;have I':Inv X f' σ H' s':=I.call' (ch:=[]) os un hok bare fun b z=>absurd z (by simp);refine hx f' σ H' s' ev (fun _ _ z=>z) I' ⟨e,C,he,hC,hcv ▸ F.imp fun a ha=>⟨?_,fun p hp z=>?_⟩⟩
 · cases q:X.s₀.heap.get? a with
   | none=>rfl
   | some o =>
    obtain ⟨o',z⟩:=I.base.there a o q (by rw [hex]; simp);rw [ha] at z;cases z
 · have:=(I.pin p (ET _ hp)).1;rw [z,ha] at this;cases this
def bQ (F:List Dv→Option (Rs Dv)) (n:Nat) (g:FnA):FnE:=fun ρ=>bnd (g ρ) fun ds=>if ds.length=n then F ds else none
def yY (P:pi) (w:EO) (K:ck) (mg:Str→Option d_) (base:Fg) (x:Str) (k:Nat) (ps:List Str) (F:List Dv→Option (Rs Dv)):Prop :=
 ∃ f fd,FnOk P w K mg base (CXE P w) k f fd ps (spE K F ps.length)∧mg x=some (.ref f)∧Gx K (.ref f)=b_∧Binds K fd ps []
section
variable {X:Cx} {k n:Nat} {ps:List Str} {x:Str} {p pos:Pos} {e:D_} {es:List D_} {F:List Dv→Option (Rs Dv)} {g:FnA}
theorem rF {k':Nat} (k:Nat) (ps:List Str) (F:List Dv→Option (Rs Dv)) (h:yY X.prog X.w X.K X.mg X.base x k ps F) (hr:Room k' X.A) (hk:k≤k') (hex:X.ex=[]) (hg:Gl X x) (ha:FA X (e :: es) g) (hn:n=ps.length:=by kernel_rfl) (hdb:(x == ("__debug__":Str))=c_:=by kernel_rfl)
 (he:j_ (e :: es) X.env=(c_,eval e X.env) :: j_ es X.env:=by kernel_rfl) (hpl:(FV pos (j_ es X.env)).any (·.1)=c_:=by kernel_rfl) :
 FE X (.Call (.Name x p) (e :: es) [] pos) (bQ F n g):=by
 subst hn;obtain ⟨f,fd,G,hm,hkp,hb⟩:=h;refine bR (kH (G.mono hk) hr hg hm hkp hb .nil (Cm hex) ha.h hdb he hpl) fun σ H Q ρ E o=>⟨ρ,E,OutA.bind o fun ds vs H' e rs o1=>?_⟩;show spE X.K F ps.length (vs ++ []) H' Q (EX X);rw [HF];by_cases hl:ds.length=ps.length
 · rw [if_pos hl] at o1;refine ⟨ds,rs,hl,?_⟩
   match hF:F ds with
   | none=>rw [hF] at o1; exact o1.elim
   | some (.ok d)=>rw [hF] at o1; exact o1
   | some (.exc c)=>rw [hF] at o1; exact fun C H1 hC e1=>⟨c,C,rfl,hC,XW.mono o1 e1⟩
 · rw [if_neg hl] at o1;exact o1.elim
end
def qK (m:Nat) (fb:FnS):List Dv→Option (Rs Dv):=fun ds=>match fb (ds.map some ++ E6 (m - ds.length) none) with
 | some (.nx _)=>some (.ok .non)
 | some (.rt d)=>some (.ok d)
 | some (.exc c)=>some (.exc c)
 | none=>none
theorem Co {P:pi} {w:EO} {K:ck} {mg:Str→Option d_} {base:Fg} {N:List Str} {qual:Str} {scope:GB} {f:k_} {cd:d_} {A:EQ} {outer:List Env} {s:e_} {H:Hp} {E:XK} {c:Nat}
 (q:∀ C H',GF K x_ (xnm c)=some (some (.ref C))→Same H H'→E (.ref C) none H'):XW (nv (CXE P w) P w K mg base N qual scope f cd A outer s H E) c H:=by
 intro f' σ H' s1 ev e1 I ⟨e,C,he,hC,F⟩;subst he;have F':Fly (fun a=>s.heap.get? a=none) H' e (.ref C) s1.heap:=F.imp fun a ha=>ha.1;refine oP I rfl rfl rfl F' fun h' Ts F2 A2 hf=>?_;have I2:=Inv.aft (f':=[]) (I.pins_of (pins':=[]) fun p hp=>nomatch hp) A2 rfl fun b hb=>⟨(hf b hb).1,(hf b hb).2.1,fun p hp=>absurd (show p∈([]:List (k_×Obj)) from hp) (by simp),(hf b hb).2.2⟩;exact ⟨e,.ref C,H',rfl,I.os,I.bare,I2.base,I2.hok,F2,q C H' hC e1⟩
theorem yZ {k:Nat} {f:k_} {fd:F3} {x:Str} {P:pi} {w:EO} {K:ck} {mg:Str→Option d_} {base:Fg} {qual:Str} {st:F_} {F:List Dv→Option (Rs Dv)} {n:Nat} (N ps:List Str) (fb:FnS) (hF:F=qK N.length fb) (hn:n=ps.length)
 (Fn:Fun K x qual st f fd) (S:eU N ps (aE st))
 (hb:∀ (cdv:d_) (A:EQ) (outer:List Env) (s:e_) (H:Hp) (E:XK),Room k (A.deeper (Ir qual (aE st) s.heap.objs.size f cdv))→FSs (nv (CXE P w) P w K mg base N qual (aE st) f cdv A outer s H E) (cy st) fb) :
 FnOk P w K mg base (CXE P w) (k + 1) f fd ps (spE K F n):=by
 subst hF hn;obtain ⟨oc,od,kV,doc,pm,an,cdv,ct,osl,rfl,lk,hcd⟩:=Fn.ex;refine xU lk hcd S (fun vs H Q E h=>?_) fun A outer s H vs Q E hr h=>?_
 · obtain ⟨ds,r,hl,_⟩:=h;rw [r.length,hl]
 · obtain ⟨ds,r,hl,q⟩:=h;refine ⟨_,(hb cdv A outer s H E hr).h,ds.map some ++ E6 (N.length - ds.length) none,iD r,?_⟩;unfold qK at q
   match hf:fb (ds.map some ++ E6 (N.length - ds.length) none) with
   | none=>rw [hf] at q; exact q.elim
   | some (.exc c)=>rw [hf] at q; exact Co q
   | some (.rt d)=>rw [hf] at q; exact fun v H' e r'=>q v H' e r'
   | some (.nx ρ)=>rw [hf] at q; exact fun σ' H' e _=>q .non H' e rfl
theorem iZ {P:pi} {w:EO} {H:Hp} {h:Fg} (ok:HOk P w H h) {a:k_} {u:HO} (q:H a=some u):∃ o,h.get? a=some o:=by
 have hk:=ok a u q;clear q
 induction u with
 | lst xs=>obtain ⟨_,_,_,_,z⟩:=hk; exact ⟨_,z⟩
 | tup xs=>obtain ⟨_,_,_,o,z,_⟩:=hk; exact ⟨_,z⟩
 | dK kvs=>obtain ⟨_,_,_,_,o,_,_,z,_⟩:=hk; exact ⟨_,z⟩
 | dT kvs=>obtain ⟨_,_,_,_,o,_,_,z,_⟩:=hk; exact ⟨_,z⟩
 | set S n=>obtain ⟨o,_,_,_,z,_⟩:=hk; exact ⟨_,z⟩
 | ins C dx fs=>obtain ⟨_,_,_,z,_⟩:=hk; exact ⟨_,z⟩
 | own y=>obtain ⟨_,z⟩:=hk; exact ⟨_,z⟩
 | xd fs=>obtain ⟨_,⟨_,_,_,z,_⟩,_⟩:=hk; exact ⟨_,z⟩
 | rng lo hi=>obtain ⟨_,_,_,z⟩:=hk; exact ⟨_,z⟩
 | frz ob u ih=>obtain ⟨z,_⟩:=hk; exact ⟨_,z⟩
 | tbl ps=>obtain ⟨_,z,_⟩:=hk; exact ⟨_,z⟩
 | met f y=>exact ⟨_,(show h.get? a=some _ from hk)⟩
 | ext φ=>obtain ⟨_,⟨_,z⟩,_⟩:=hk; exact ⟨_,z⟩
theorem oQ {P:pi} {w:EO} {H:Hp} {h:Fg} (ok:HOk P w H h) {a:k_} (n:h.get? a=none):H a=none:=by
 cases q:H a with
 | none=>rfl
 | some u =>
  obtain ⟨o,z⟩:=iZ ok q;rw [n] at z;cases z
theorem oR {K:ck} {h:Fg} {mg:Str→Option d_} {x:Str} {C:k_} {bmB:List d_} {newId:String} (X:K.In h) (hb:mg x=some (.ref C)) (q:K2 K C bmB newId=b_):OwnCls x C bmB newId mg h:=by
 constructor
 · exact hb
 unfold K2 at q;split at q
 · rename_i dd cd sl look;split at q
   · rename_i C2 rest s0 s1 s2 s3 nid s5 em es;simp only [i_,beq_iff_eq,Jv] at q;have e1:=q.1.1.1.1.1;have e2:=q.1.1.1.1.2;have e3:=q.1.1.1.2;have e4:=q.1.1.2;have e5:=q.1.2;have e6:=q.2;clear q;subst e1 e2;obtain ⟨f1,f2,f3,f4,f5,f6,f7,f8,f9,f10,f11⟩:=cd;dsimp only at em e3 e5 e6;subst em e3;obtain ⟨l⟩:=sl;have e7:l=[s0,s1,s2,s3,some (.builtin nid),s5]:=es;subst e7;refine ⟨rest,f4,f1,f5,f2,f6,f7,f8,f9,f10,dd,s0,s1,s2,s3,s5,_,X _ _ look,.of_isNs (PySem.W.isNs_of_in X e5),?_,PySem.W.tail_of_in X e4⟩;exact PySem.W.nsMap_none_of_in X e5 e6
   · cases q
 · cases q
abbrev bmV:List d_:=[.type "ValueError",.type "Exception",.type "BaseException",.type "object"]
structure XC (K:ck) (c:Nat) (C:k_):Prop where
 nm:GF K x_ (xnm c)=some (some (.ref C))
 ex:K2 K C bmV "ValueError.__new__"=b_
def di (c:Nat) (f:FnE):FnS:=fun ρ=>fr (f ρ) fun _=>some (.exc c)
section
variable {X:Cx} {a:D_} {fa:FnE} {np cpos pos:Pos} {x:Str} {C:k_}
theorem rG (c:Nat) (K:XC X.K c C) (hx:xnm c=x) (hm:X.mg x=some (.ref C)) (hex:X.ex=[]) (hc:X.calm=b_) (hg:Gl X x) (ha:FE X a fa)
 (he:j_ [a] X.env=(c_,eval a X.env) :: j_ [] X.env:=by kernel_rfl) (hdb:(x == ("__debug__":Str))=c_:=by kernel_rfl) :
 FS X (.Raise (some (.Call (.Name x np) [a] [] cpos)) none pos) (di c fa):=by
 subst hx;constructor;intro f' s σ H D I ⟨ρ,E,o⟩;obtain ⟨tl,N,nm,q,bs,hdct,sn,sub,ab,col,dd,k0,k1,k2,k3,k5,mN,hC,hN,hni,T⟩:=(oR I.ok.mod.kin hm K.ex).obj;refine wpAny_Raise_call_subT (C:=C) (nm:=nm) (q:=q) (N:=N) (bs:=bs) (bm:=tl) (hdct:=hdct) (sn:=sn) (sub:=sub) (ab:=ab) (col:=col) (dd:=dd) (k0:=k0) (k1:=k1) (k2:=k2) (k3:=k3) (k5:=k5) Hn (mN:=mN)
  (T.hasType Hn.hasBase) (I.ok.hd hc) (by rw [he]; rfl) hni (iR I hg hm ⟨rfl,?_⟩ hdb)
 have hp:=(kM ha ow he).h cpos f' s σ H (fun vs H1=>vs.length=1∧XW X c H1) I ⟨ρ,E,?_⟩
 · rw [he] at hp ⊢;refine Kv (thn hp fun us s2 ⟨vs,H1,I1,rv,hl,hw⟩=>⟨rfl,?_,I1.bk _ _ hC,hN.keeps I1.bk,T.keeps I1.bk,fun h' e me=>?_⟩)
   · rw [← rv.length,hl]; decide
   · have I2:Inv X f' σ H1 { s2 with heap:=h' }:=I1.kept (t':=s2.toks) me.keeps;obtain ⟨t,t1,t2,t3⟩:=me.there;refine hw f' σ H1 _ (.ref e) (fun _ _ z=>z) I2 ⟨e,C,rfl,K.nm,oQ I1.hok me.new,⟨?_,fun p hp z=>?_⟩,_,_,.ref t,t1,rfl,rfl,rfl,.inl rfl⟩
     · cases z:X.s₀.heap.get? e with
       | none=>rfl
       | some o2 =>
        obtain ⟨o3,z3⟩:=I1.base.there e o2 z (by rw [hex]; simp);rw [me.new] at z3;cases z3
     · have z2:=(I1.pin p (ET _ hp)).1;rw [z,me.new] at z2;cases z2
 · show OutA X H (aa fa ag ρ) _;unfold aa;unfold di at o
   match hf:fa ρ with
   | none=>rw [hf] at o; exact o.elim
   | some (.exc c2)=>rw [hf] at o; exact o
   | some (.ok d)=>rw [hf] at o; exact fun vs H1 e1 r=>⟨r.length,XW.mono o e1⟩
end
end FD
namespace FD
open PySem PySem.Spec PyProof.Rows L2 PySem.W Builtin.Getset_descriptor
theorem oU:plainId "BaseException.__getattribute__"=b_:=by decide +kernel
theorem lQ:builtinKind "BaseException.__getattribute__"=some .slot:=by decide +kernel
theorem oV:splitId "BaseException.__getattribute__"=some ("BaseException","__getattribute__"):=by decide +kernel
theorem rH (self:d_):bindSpecial (.builtin "BaseException.__getattribute__") self=pure (.builtin "BaseException.__getattribute__",[self]):=by
 have h1:withoutEnding? "BaseException.__getattribute__" "#opaque"=none:=by decide +kernel
 have h2:withoutEnding? "BaseException.__getattribute__" "#data"=none:=by decide +kernel
 simp only [bindSpecial,typeOf,builtinType,h1,h2,lQ]; rfl
section
variable {prog:pi} {w:EO} {A:EQ} {E:d_→e_→Prop} {s:e_} {K:ck} {x C:k_} {ox:Obj}
structure XI (K:ck) (C:k_):Prop where
 ga:findIn K (.ref C) "__getattribute__"=some (some (.builtin "BaseException.__getattribute__"))
 gt:findIn K (.ref C) "__getattr__"=some none
 cl:findIn K (.ref C) "__class__"=some (some (.builtin "object.__class__"))
 sp:specialIn K (.builtin "object.__class__") "__get__"=some (some (.builtin "getset_descriptor.__get__"))
 tk:takesIn K (.builtin "object.__class__")=some b_
 ob:mroIn K C (.type "object")=some b_
 be:mroIn K C (.type "BaseException")=some b_
theorem y0 (hx:s.heap.get? x=some ox) (hc:ox.cls=.ref C) {M:K4}:Looks M s.heap (typeOf (.ref x)) (.ref C):=hc ▸ (Looks.ld hx).andThen .now
theorem rJ (X:K.In s.heap) (k:XI K C) {M:K4}:Looks M s.heap (JL (.ref x) (.ref C) "__class__") (.bind (.builtin "getset_descriptor.__get__") (.builtin "object.__class__")):=by
 have L1:=Lx (M:=M) X k.cl;have L2:=looks_specialIn (M:=M) X k.sp;have L3:=looks_takesIn (M:=M) X k.tk;intro A2 Q2 E2 s2 k2 q2;unfold JL;refine ge (L1 A2 _ E2 s2 k2 (ge (L2 A2 _ E2 s2 k2 (ge ?_))));unfold Li;refine ge (L3 A2 _ E2 s2 k2 ?_);rw [if_pos rfl];exact m_ (ge (wpAny_rule (m_ q2)))
theorem y3 {R:Ld→e_→Prop} {tp:d_} (X:K.In s.heap) (hx:s.heap.get? x=some ox) (hc:ox.cls=.ref C) (hm:mroIn K C (.type "object")=some b_)
 (h:R (.ok (.ret (.ref C))) s):HW (A_ prog w) A (.call (.builtin "getset_descriptor.__get__") ⟨[.builtin "object.__class__",.ref x,tp],[]⟩) R s:=by
 have L0:=y0 (M:=A_ prog w) hx hc;have L1:=looks_mroIn (M:=A_ prog w) X hm;obtain ⟨hh,g,dr,t,os⟩:=s;refine Iz KF.slot_gs.plain KF.entry_gs (KF.slot_gs.check _ _ _ _ _ _ _ _ KF.type_class (KF.args_gs _ _ _) ?_);unfold IR.«getset_descriptor.__get__» descrGet;rw [dga_obj];refine ge (m_ ?_);unfold descrGetter descrCheckInstance descrNameAndClass isInstance;simp only [KF.owner_class]
 repeat lk
 refine ⟨Lg _ (by decide +kernel),IF KF.entry_class ?_⟩;unfold IR.«object.__class__» shownTypeOf
 repeat lk
 exact h
theorem oW {Q:Option d_→e_→Prop} (X:K.In s.heap) (hx:s.heap.get? x=some ox) (hc:ox.cls=.ref C) (k:XI K C)
 (h:Q (some (.ref C)) { s with toks:=s.toks + 1 }):C_ (A_ prog w) A (getAttr? (.ref x) "__class__") Q E s:=by
 have L0:=y0 (M:=A_ prog w) hx hc;have L2:=rJ (M:=A_ prog w) (x:=x) X k;obtain ⟨hh,g,d,t,os⟩:=s;have L1:=Lx (M:=A_ prog w) X k.ga;have L3:=Lx (M:=A_ prog w) X k.gt;have LB:=looks_mroIn (M:=A_ prog w) X k.be;unfold getAttr? getAttrBy? getAttrBy;refine ge (wpAny_mkText (ge (wpAny_attempt (FX (ge (L0.at (ge (L1.at ?_))))))));have hne:(He "BaseException.__getattribute__" == He "object.__getattribute__")=c_:=by decide +kernel
 dsimp only;rw [hne,Ij,if_neg n_];unfold getAttrByItsOwn;refine ge ?_;show C_ _ _ (typeLookup (.ref C) "__getattr__") _ _ _;refine L3.at ?_;refine ge (wpAny_attempt (FX ?_));unfold callGetattribute boundAndCalled;rw [if_neg (by decide)];rw [rH];refine ge (m_ ?_);refine K7 (Iz oU F.entry_bexc_ga ?_);simp only [checkBuiltinCall,lQ,oV];have ha:=F.args_bexc_ga (.ref x) (.str "__class__" t);have LI:Looks (A_ prog w) hh (isInstance (.ref x) (.type "BaseException")) b_:=L0.andThen LB;show C_ _ _ (isInstance (.ref x) (.type "BaseException") >>= _) _ _ _;refine ge (LI.at ?_);simp only [Gw,EZ,if_false];have hz:hh.get? x=some ox∧True:=⟨hx,trivial⟩;clear hx
 repeat (any_goals (first | assumption | wp_step))
 have hx':=hz.1;refine Jn hx' ?_;refine m_ ?_;rw [hc];refine ge (L2.at ?_);dsimp only;unfold MI;dsimp only;refine ge (FX (K7 (y3 (s:=⟨hh,g,d,t + 1,os⟩) (ox:=ox) X hx' hc k.ob ?_)));refine m_ ?_;show C_ _ _ (handedOut (.ref C)) _ _ _;rw [handedOut_of rfl];exact m_ (m_ h)
theorem lR {K:ck} {C:k_} {b:d_} {r:Bool} (h:mroIn K C b=some r):∃ cd,clsIn K C=some cd:=by
 unfold mroIn at h;cases q:clsIn K C with
 | none=>rw [q] at h; cases h
 | some cd=>exact ⟨cd,rfl⟩
theorem rK {K:ck} {x C:k_} {ox:Obj} (k:XI K C) (hc:ox.cls=.ref C):KitX K (.ref x) (.ref C) (fun h=>h.get? x=some ox) where
 ty:=fun M h _ q=>hc ▸ (Looks.ld q).andThen .now
 it:=fun _ _ X _=>by
  obtain ⟨cd,hc⟩:=lR k.ob;unfold clsIn at hc;split at hc
  · rename_i look;intro A2 Q2 E2 s2 k2 q2;unfold isType loadHead;exact ge (wpAny_loadPart (k2 _ _ (X _ _ look)) (m_ q2))
  · cases hc
 ne:=fun h tp dd its n sl X htp=>by
  obtain ⟨cd,hc⟩:=lR k.ob;cases z:(w_ C == w_ tp) with
  | false=>rfl
  | true =>
   have e:=Value.ref.inj (beq_iff_eq.mp z);subst e;unfold clsIn at hc;split at hc
   · rename_i look;cases (X _ _ look).symm.trans htp
   · cases hc
 ca:=fun X q z=>oW X q hc k z
end
def isX (tb:Nat→Option Bool):Dv→Option (Rs Dv)
 | .exn c=>match tb c with
  | some b=>some (.ok (.bl b))
  | none=>none
 | _=>none
def XT (K:ck) (tb:Nat→Option Bool) (T:d_):Prop:=∀ c b,tb c=some b→∀ C,nsIn K x_ (xnm c)=some (some (.ref C))→XI K C∧kitOne K (.ref C) T=some b
section
variable {X:Cx} {p pos pT:Pos} {a:D_} {fa:FnE} {T:Str}
theorem lS {tv:V} {tval:d_} (rt:∀ u,RelV tv u→u=tval) {tb:Nat→Option Bool} (k:XT X.K tb tval):CallR X (.builtin "isinstance") (fun xs H Q=>∃ v c b,xs=[v,tv]∧Rep X.K H (.exn c) v∧tb c=some b∧Q (.bl b) H):=by
 intro f' s σ H xs us Q I r h;obtain ⟨v,c,b,rfl,rv,hb,q⟩:=h;obtain ⟨a,o,u,C,rfl,hH,hc,hn⟩:=rv.exnE;obtain ⟨u1,u2,rfl,r1,r2⟩:=xR r;cases (show u1=w_ a from r1);cases (rt u2 r2);obtain ⟨xi,kk⟩:=k c b hb C hn;have hg:s.heap.get? a=some o:=(I.hok a _ hH).1;exact kia_one (rK xi hc) I.kIn hg kk (by intro z; cases z) fun tk=>⟨.bl b,H,I.tok tk,rfl,q⟩
theorem y4 {tb:Nat→Option Bool} {CT:k_} (k:XT X.K tb (.ref CT)) (hT:X.mg T=some (.ref CT)) (hgT:Gl X T) (hdT:(T == ("__debug__":Str))=c_) (hg:Gl X "isinstance") (hm:X.mg "isinstance"=none) (ha:FE X a fa)
 (hs1:j_ [a,.Name T pT] X.env=(c_,eval a X.env) :: j_ [.Name T pT] X.env:=by kernel_rfl) (hs2:j_ [.Name T pT] X.env=(c_,eval (.Name T pT) X.env) :: j_ [] X.env:=by kernel_rfl)
 (hpl:(FV pos (j_ [.Name T pT] X.env)).any (·.1)=c_:=by kernel_rfl) :
 FE X (.Call (.Name "isinstance" p) [a,.Name T pT] [] pos) (f1 (isX tb) fa) :=
 bR (fw (lS (tv:=.ref CT) (fun u z=>z) k) hg hm Hb (eT ha.h (eT (kA (v:=.ref CT) hgT hT rfl hdT) lF hs2) hs1) (by decide) (by decide) hs1 hpl) fun σ H Q ρ E o=>⟨ρ,E,Out.bind o fun d v H1 e1 r o1=>by
  show ∃ v2 c b,[v,V.ref CT]=[v2,V.ref CT]∧_;cases d with
  | exn c =>
   have o2:Out X H1 (match tb c with | some b=>some (.ok (.bl b)) | none=>none) Q:=o1
   cases q:tb c with
   | none=>rw [q] at o2; exact o2.elim
   | some b=>rw [q] at o2; exact ⟨v,c,b,rfl,r,q,o2 _ H1 (.refl H1) rfl⟩
  | _=>exact o1.elim⟩
theorem y6 {T:String} {tb:Nat→Option Bool} (k:XT X.K tb (.type T)) (hT:F9 (a_ T)=some (.type T)) (hn:a_ T≠"__name__") (hdT:(a_ T == ("__debug__":Str))=c_)
 (hg:Gl X "isinstance") (hm:X.mg "isinstance"=none) (hgT:Gl X (a_ T)) (hmT:X.mg (a_ T)=none) (ha:FE X a fa)
 (hs1:j_ [a,.Name (a_ T) pT] X.env=(c_,eval a X.env) :: j_ [.Name (a_ T) pT] X.env:=by kernel_rfl) (hs2:j_ [.Name (a_ T) pT] X.env=(c_,eval (.Name (a_ T) pT) X.env) :: j_ [] X.env:=by kernel_rfl)
 (hpl:(FV pos (j_ [.Name (a_ T) pT] X.env)).any (·.1)=c_:=by kernel_rfl) :
 FE X (.Call (.Name "isinstance" p) [a,.Name (a_ T) pT] [] pos) (f1 (isX tb) fa) :=
 bR (fw (lS (tv:=.ty T) (fun u z=>z) k) hg hm Hb (eT ha.h (eT (nM (v:=.ty T) hgT hmT hT rfl hn hdT) lF hs2) hs1) (by decide) (by decide) hs1 hpl) fun σ H Q ρ E o=>⟨ρ,E,Out.bind o fun d v H1 e1 r o1=>by
  show ∃ v2 c b,[v,V.ty T]=[v2,V.ty T]∧_;cases d with
  | exn c =>
   have o2:Out X H1 (match tb c with | some b=>some (.ok (.bl b)) | none=>none) Q:=o1
   cases q:tb c with
   | none=>rw [q] at o2; exact o2.elim
   | some b=>rw [q] at o2; exact ⟨v,c,b,rfl,r,q,o2 _ H1 (.refl H1) rfl⟩
  | _=>exact o1.elim⟩
end
end FD
namespace FD
open PySem PySem.Spec PyProof.Rows L2 PySem.W
section
variable {X:Cx} {f':List (k_×Obj)} {σ:L2.St} {H:Hp} {s:e_}
theorem oX {M:K4} {A:EQ} {E:d_→e_→Prop} {i:Nat} {x:Str} {v:V} {pos:Pos} {Q:Unit→e_→Prop} (I:Inv X f' σ H s) (hN:X.N.Nodup) (hi:X.N[i]?=some x) (hk:X.env.scope.names.lookup x=some .local) (hv:σ[i]?=some (some v))
 (h:∀ s',Inv X f' (σ.set i none) H s'→Q () s'):C_ M A (unbindBehindTheSuite X.env x pos) Q E s:=by
 obtain ⟨m,hn,hl⟩:=id I.loc;have hkd:X.env.kindOf x=some .local:=hk;obtain ⟨u,ru,lk⟩:=hl i x v hi hv (.inl hk);have hm:m x=some u:=by
  rcases lk with ⟨_,z⟩ | ⟨z,_⟩
  · exact z
  · rw [hkd] at z;rcases z with z | z <;> cases z
 have hcls:(X.env.scope.kind == .class || (X.env.scope.kind == .module && X.env.locals != X.env.globals))=c_:=by rw [I.ok.kind]; rfl
 have cne:=I.cne;obtain ⟨oL,_,_,hoL,_⟩:=id hn;refine wpAny_onRaise (wpAny_unbindName_local hkd hn hm hcls fun h' w hn' hs=>?_);refine h _ ⟨I.ok,I.os,I.bare,⟨fun b o e n hb hx=>?_,fun b o e n hb hx=>?_,I.base.free,fun b o e hx=>?_,I.base.tups,I.base.frzs,I.base.tbls⟩,⟨_,hn',fun j y v' e1 e2 e3=>?_⟩,fun y c e=>?_,I.free,I.freeC,fun p hp=>?_,fun b ob e=>?_,by simpa using I.len⟩
 · exact (hs.2 b (Fy (y_ (B_ e) I.ok.above))).trans (I.base.keep b o e n hb hx)
 · obtain ⟨sl,e1⟩:=I.base.slot b o e n hb hx;exact ⟨sl,(hs.2 b (Fy (y_ (B_ e) I.ok.above))).trans e1⟩
 · obtain ⟨o',e1⟩:=I.base.there b o e hx;exact ⟨o',(hs.2 b (Fy (y_ (B_ e) I.ok.above))).trans e1⟩
 · by_cases hj:j=i
   · subst hj;have hjl:j < σ.length:=by rw [I.len]; exact (E_.mp hi).1
     rw [E7 hjl] at e2;cases e2
   · rw [EU (HC hj)] at e2;obtain ⟨u',r',q⟩:=hl j y v' e1 e2 e3;refine ⟨u',r',?_⟩;rcases q with ⟨k,e⟩ | ⟨k,c,e,z⟩
     · refine .inl ⟨k,?_⟩;have:y≠x:=fun e=>hj (iQ hN e1 (e ▸ hi));simp [this,e]
     · exact .inr ⟨k,c,e,z.sameBut hs (cne y c e)⟩
 · obtain ⟨w',z⟩:=I.cell y c e;exact ⟨w',z.sameBut hs (cne y c e)⟩
 · obtain ⟨e,n,ne,nf,d⟩:=I.pin p hp;exact ⟨(hs.2 p.1 ne).trans e,n,ne,nf,d⟩
 · refine (I.hok b ob e).stay (fun c w' hc q=>(hs.2 c ?_).trans q) (fun _ q=>q) fun _ _ q=>q;rintro rfl;rcases hc with hc | hc
   · rw [← hc,I.free] at e; cases e
   · rw [I.free] at hc; cases hc
theorem Inv.freeze {e:k_} {oe:Obj} {vs:Array d_} (I:Inv X f' σ H s) (he:H e=none) (hg:s.heap.get? e=some oe) (hd:oe.data=.fields vs) (h0:X.s₀.heap.get? e=none) (hp:∀ p∈X.pn ++ f',p.1≠e) :
 Inv X f' σ (upd H e (.frz oe (.ext fun _=>True))) s:=by
 have ne:∀ b u,H b=some u→b≠e:=fun b u q=>av q he;refine ⟨I.ok,I.os,I.bare,⟨I.base.keep,I.base.slot,fun b o q n hx=>?_,I.base.there,fun b xs q=>?_,fun b o u q=>?_,fun b ps q=>?_⟩,I.loc,I.cell,?_,fun x c q=>?_,fun p hp'=>?_,fun b u q=>?_,I.len⟩
 · have hb:b≠e:=fun z=>by rw [z,h0] at q; cases q
   rw [ay hb];exact I.base.free b o q n hx
 · have q':=I.base.tups b xs q;rw [ay (ne b _ q')];exact q'
 · have q':=I.base.frzs b o u q;rw [ay (ne b _ q')];exact q'
 · obtain ⟨more,q'⟩:=I.base.tbls b ps q;exact ⟨more,by rw [ay (ne b _ q')]; exact q'⟩
 · obtain ⟨m,⟨o,es,ep,ho,hdd,_⟩,_⟩:=I.loc;have hb:X.env.locals≠e:=fun z=>by rw [z,hg] at ho; cases ho; rw [hd] at hdd; cases hdd
   rw [ay hb];exact I.free
 · obtain ⟨v,o,ho,hdd⟩:=I.cell x c q;have hb:c≠e:=fun z=>by rw [z,hg] at ho; cases ho; rw [hd] at hdd; cases hdd
   rw [ay hb];exact I.freeC x c q
 · obtain ⟨q1,q2,q3⟩:=I.pin p hp';exact ⟨q1,by rw [ay (hp p hp')]; exact q2,q3⟩
 · by_cases hb:b=e
   · subst hb;rw [ar] at q;cases q;exact ⟨hg,trivial,⟨oe,hg⟩,fun _ _ _ _=>trivial⟩
   · rw [ay hb] at q;exact (I.hok b u q).stay (fun _ _ _ z=>z) (fun c z=>by rw [ay (ne c _ z)]; exact z) (fun c xs z=>by rw [ay (ne c _ z)]; exact z) fun c _ _ z=>by rw [ay (ne c _ z)]; exact z
end
structure RoomM (k:Nat) (A:EQ):Prop where
 dp:A.depth + 3 * k + 5 < recursionLimit
 un:A.units + 16 * k + 200 < cLine
theorem RoomM.of {k:Nat} {A:EQ} (r:Room k A):RoomM k A:=⟨r.dp,r.un⟩
theorem RoomM.mono {j k:Nat} {A:EQ} (r:RoomM k A) (h:j≤k):RoomM j A:=⟨by have:=r.dp; omega,by have:=r.un; omega⟩
theorem RoomM.deeper {k:Nat} {A:EQ} (r:RoomM (k + 1) A) (env:Env):RoomM k (A.deeper env) :=
 ⟨by have:=r.dp; show A.depth + 1 + 3 * k + 5 < _; omega,by have:=r.un; show A.units + 3 + 16 * k + 200 < _; omega⟩
theorem RoomM.units {k:Nat} {A:EQ} (r:RoomM k A):A.units + 64 < cLine:=by have:=r.un; omega
structure FnM (P:pi) (w:EO) (K:ck) (mg:Str→Option d_) (base:Fg) (k:Nat) (f:k_) (fd:F3) (ps:List Str) (F:List Dv→Option (Rs Dv)):Prop where
 run:∀ (A:EQ) (outer:List Env) (s:e_) (H:Hp) (args:Args) (us:List d_) (vs:List V) (ds:List Dv) (d:Dv) (Q:VK),RoomM k A→Env0 P w K mg base A outer s H→KO s fd args (ps.zip us)→Vals vs us →
  Reps K H ds vs→ds.length=ps.length→F ds=some (.ok d)→(∀ v H',Same H H'→Rep K H' d v→Q v H')→HW (A_ P w) A (.call (.ref f) args) (CR CX0 outer P w H s Q E0) s
def EM (P:pi) (w:EO) (K:ck) (mg:Str→Option d_) (base:Fg) (x:Str) (k:Nat) (ps:List Str) (F:List Dv→Option (Rs Dv)):Prop :=
 ∃ f fd,FnM P w K mg base k f fd ps F∧mg x=some (.ref f)∧Gx K (.ref f)=b_∧Binds K fd ps []
section
variable {X:Cx} {x:Str} {p pos:Pos} {e:D_} {es:List D_} {g:FnA} {n:Nat}
end
abbrev xj (X:Cx) (pl:List (k_×Obj)) (E:d_→e_→Prop):Cx:={ X with pn:=X.pn ++ pl,xe:=E }
abbrev kY (X:Cx) (pl:List (k_×Obj)) (e:k_):Cx:={ X with A:=X.A.mark (some (.ref e)),calm:=c_,pn:=X.pn ++ pl,xe:=fun _ _=>False }
section
variable {X:Cx} {pl ps:List (k_×Obj)} {σ:L2.St} {H:Hp} {s:e_} {E:d_→e_→Prop} {e:k_}
theorem vf (I:Inv X pl σ H s):Inv (xj X pl E) [] σ H s :=
 ⟨⟨I.ok.mod,I.ok.kind,I.ok.glob,I.ok.blt,I.ok.above,I.ok.inj,I.ok.has,I.ok.cab,I.ok.hd,I.ok.frames,I.ok.stk,I.ok.exf,I.ok.bs,I.ok.bsz,I.ok.noex,I.ok.exfs,I.ok.funs,I.ok.frf⟩,
  I.os,I.bare,I.base,I.loc,I.cell,I.free,I.freeC,fun p hp=>I.pin p (by simpa using hp),I.hok,I.len⟩
theorem gZ (I:Inv (xj X pl E) ps σ H s):Inv X pl σ H s :=
 ⟨⟨I.ok.mod,I.ok.kind,I.ok.glob,I.ok.blt,I.ok.above,I.ok.inj,I.ok.has,I.ok.cab,I.ok.hd,I.ok.frames,I.ok.stk,I.ok.exf,I.ok.bs,I.ok.bsz,I.ok.noex,I.ok.exfs,I.ok.funs,I.ok.frf⟩,
  I.os,I.bare,I.base,I.loc,I.cell,I.free,I.freeC,fun p hp=>I.pin p (ET _ hp),I.hok,I.len⟩
theorem lT (I:Inv X pl σ H s):Inv (kY X pl e) [] σ H s :=
 ⟨⟨I.ok.mod,I.ok.kind,I.ok.glob,I.ok.blt,I.ok.above,I.ok.inj,I.ok.has,I.ok.cab,fun z=>absurd z n_,I.ok.frames,I.ok.stk,I.ok.exf,I.ok.bs,I.ok.bsz,I.ok.noex,I.ok.exfs,I.ok.funs,I.ok.frf⟩,
  I.os,I.bare,I.base,I.loc,I.cell,I.free,I.freeC,fun p hp=>I.pin p (by simpa using hp),I.hok,I.len⟩
theorem mS (ok:X.Ok) (I:Inv (kY X pl e) ps σ H s):Inv X pl σ H s :=
 ⟨ok,I.os,I.bare,I.base,I.loc,I.cell,I.free,I.freeC,fun p hp=>I.pin p (ET _ hp),I.hok,I.len⟩
theorem rL {Y:Cx} (I:Inv Y ps σ H s) (hex:Y.ex=[]) (hst:Y.stack=Y.env :: Y.outer) (hfm:Y.env.frame=some Y.env.locals) {cls:d_} (F:Fly (BV Y) H e cls s.heap)
 {Q:Unit→e_→Prop} {E1 E2:d_→e_→Prop} (k:∀ h' Ts a0,(hid Y e Ts s.heap).StaysIn h'→h'.FunFrames (hid Y e Ts s.heap) Y.stack→h'.TracedW (hid Y e Ts s.heap) e cls a0 →
  (∀ b o,s.heap.get? b=some o→(∀ vs,o.data≠.fields vs)→∃ sl,h'.get? b=some { o with slots:=sl }) →
  (∀ b,b=e∨b∈Ts→H b=none∧BV Y b∧∃ o vs,s.heap.get? b=some o∧o.data=.fields vs)→Q () { s with heap:=h' }) :
 C_ (A_ Y.prog Y.w) Y.A (LW (.ref e) Y.env) (fun _ s2=>C_ (A_ Y.prog Y.w) Y.A (setFlight (.ref e) none) Q E1 s2) E2 s:=by
 obtain ⟨f1,f2,oe,vs,a0,q1,q2,q3,q4,q5⟩:=F;have hfr:Y.A.frames=some (Y.env :: Y.outer):=hst ▸ I.ok.frames;subst q2;rcases q5 with q5 | ⟨T,oT,ts,r1,r2,r3,r4,r5,r6,r7⟩
 · have b3:s.heap.FunFrames (hid Y e [] s.heap) (Y.env :: Y.outer):=hst ▸ iY I;have go:∀ h',Heap.NotedW (hid Y e [] s.heap) (Y.env :: Y.outer) e oe.cls a0 (rawInt Y.env.locals) s.heap h'→C_ (A_ Y.prog Y.w) Y.A (setFlight (.ref e) none) Q E1 { s with heap:=h' }:=fun h' ⟨k1,k2,k3,k4⟩ =>
    Ik (s:={ s with heap:=h' }) k1 k2 k3 fun h2 m1 m2 m3 m4=>k h2 [] a0 m1 (hst ▸ m2) m3 (fun b o q d=>by
     obtain ⟨sl,q'⟩:=k4 b o q d;exact ⟨sl,m4 b _ q' d⟩) fun b hb=>by
      rcases hb with rfl | hb
      · exact ⟨f1,f2,oe,vs,q1,q3⟩
      · cases hb
   unfold LW;simp only [hfm];refine ge (Ko q1 q3 q5 ?_);rw [if_neg (by decide)];exact wpAny_entryW hfr b3 hfm q1 (fun b o z=>G6 _ z) (Ge _ (g_ ..)) q3 (F0.mp q5).1 q4 go
 · have b3:s.heap.FunFrames (hid Y e [T] s.heap) (Y.env :: Y.outer):=hst ▸ iY I;have ht:s.heap.TracedW (hid Y e [T] s.heap) e oe.cls a0:=⟨oe,vs,T,oT,ts,q1,⟨rfl,q4⟩,q3,r1,Ge _ (by simp),r2,r5,r6,r7⟩;refine wpAny_noteFrame_onW hfr b3 hfm ht (fun b o z=>G6 _ z) (Ge _ (g_ ..)) fun h' ⟨k1,k2,k3,k4⟩=>?_;refine Ik (s:={ s with heap:=h' }) k1 k2 k3 fun h2 m1 m2 m3 m4=>k h2 [T] a0 m1 (hst ▸ m2) m3 (fun b o q d=>by
    obtain ⟨sl,q'⟩:=k4 b o q d;exact ⟨sl,m4 b _ q' d⟩) fun b hb=>by
     rcases hb with rfl | hb
     · exact ⟨f1,f2,oe,vs,q1,q3⟩
     · simp at hb;subst hb;exact ⟨r3,r4,oT,ts,r5,r6⟩
theorem oY {prog:pi} {w:EO} {A:EQ} {E1:d_→e_→Prop} {K:ck} {mg mg2:Str→Option d_} {C J:k_} {oe:Obj} {y z:Str} {Q:Bool→e_→Prop} (X:K.In s.heap) (hC:OwnCls y C bmV "ValueError.__new__" mg s.heap) (hJ:OwnCls z J bmV "ValueError.__new__" mg2 s.heap)
 (he:s.heap.get? e=some oe) (hc:oe.cls=.ref C) (hm:mroIn K C (.ref J)=some b_) (h:Q b_ s):C_ (A_ prog w) A (excMatches (.ref e) (.ref J)) Q E1 s:=by
 obtain ⟨tl,N,nm,q,bs,hdct,sn,sub,ab,col,dd,k0,k1,k2,k3,k5,mN,hC,hN,hni,T⟩:=hC.obj;obtain ⟨tl',N',nm',q',bs',hdct',sn',sub',ab',col',dd',l0,l1,l2,l3,l5,mN',hJ,hN',hni',T'⟩:=hJ.obj;obtain ⟨hh,g,d,t,os⟩:=s;have hcB:(w_ J :: tl').contains (.type "BaseException")=b_:=by rw [List.contains_cons,T'.hasType Hn.hasBase,Bool.or_true]
 have hcC:(w_ C :: tl).contains (.ref J)=b_:=by
  unfold mroIn at hm;obtain ⟨cd,a,b⟩:=GY.mp hm;split at b
  · cases b
  · have b':=Fj b;unfold clsIn at a;split at a
    · rename_i look;cases a;have z:=(X _ _ look).symm.trans hC;cases z;exact b'
    · cases a
 have f:=tc_notTuple;unfold excMatches
 repeat (first | (with_reducible refine Jn he ?_; rw [hc]) | with_reducible refine Jn hJ ?_ | (with_reducible refine wpAny_isSubtype_exc hJ ?_; rw [hcB]) | (with_reducible refine wpAny_isSubtype_exc hC ?_; rw [hcC]) | wp_step)
 exact h
end
section
variable {X:Cx} {ex hx:D_} {f g:FnE} {J n:Str} {CJ:k_} {np rp rp2 hpos pos:Pos}
end
end FD
namespace FD
open PySem PySem.Spec PyProof.Rows L2
section
variable {X:Cx} {apos cpos:Pos} {e o:D_} {es:List D_} {ga:FnA} {fo:FnE}
end
section
variable {X:Cx} {a b c:D_} {fa fb fc:FnE} {pos:Pos}
end
def strMul (x:Str) (n:Int):Str:=if n < 1 then KN else if (n == 1 || x.length == 0)=b_ then x else ⟨(E6 n.toNat x.cps).foldl (· ++ ·) #[]⟩
def y9:Dv→Dv→Option (Rs Dv)
 | .str x,.int n=>if x.length≤1000∧-1000≤n∧n≤1000 then some (.ok (.str (strMul x n))) else none
 | x,y=>gr x y
section
variable {X:Cx}
def vg:R2:=fun x y H Q=>∃ i n,x=.str i∧y=.int n∧(i.length≤1000∧-1000≤n∧n≤1000)∧Q (.str (strMul i n)) H
theorem lU (a:Array Nat):∀ (k:Nat) (acc:Array Nat),((E6 k a).foldl (· ++ ·) acc).size=acc.size + k * a.size
 | 0,acc=>by simp
 | k + 1,acc=>by
  rw [IK,Ga,lU a k (acc ++ a),Jx,IU];omega
theorem oZ {a n:Nat} (h1:a≤1000) (h2:n≤1000):n * a≤sizeLine:=by
 have h3:n * a≤1000 * 1000:=Kz h2 h1;rw [HK];exact EW h3 (by decide)
theorem op_mulS:OpR X (GE .Mult) vg:=by
 intro f' s σ H x y v u Q I rx ry ⟨i,n,hx,hy,hc,q⟩;subst hx hy;obtain ⟨t,rfl⟩:=rx;obtain ⟨t2,rfl⟩:=ry;have h0:(h_ (n < -(2 ^ 63:Int)) || h_ (n ≥ 2 ^ 63))=c_:=by
  have h1:¬ n < -(2 ^ 63:Int):=by omega
  have h2:¬ n ≥ 2 ^ 63:=by omega
  rw [decide_eq_false h1,decide_eq_false h2]; rfl
 refine P.mul_str h0 (fun h1 h2 h3=>?_) (fun h1 h2=>?_) ?_
 · have hn:0 < n:=by omega
   have e1:=Int.mul_ediv_add_emod (2 ^ 63 - 1) n;have e2:=Gd (2 ^ 63 - 1) hn;have hq:(2 ^ 63 - 1:Int) / n < 1000:=by omega
   have hq0:0≤(2 ^ 63 - 1:Int) / n:=Int.ediv_nonneg (by decide) (by omega);have h4:n * ((2 ^ 63 - 1:Int) / n)≤1000 * ((2 ^ 63 - 1:Int) / n):=Int.mul_le_mul_of_nonneg_right hc.2.2 hq0;omega
 · show h_ (i.length * n.toNat > sizeLine)=c_;have:=oZ (a:=i.length) (n:=n.toNat) hc.1 (by omega);rw [LM];exact decide_eq_false (by omega)
 · unfold strMul at q;split
   · rename_i h1;rw [if_pos h1] at q;exact ⟨by decide,⟨.str KN,H,I.tok _,⟨_,rfl⟩,q⟩⟩
   · rename_i h1;rw [if_neg h1] at q;split
     · rename_i h2;rw [if_pos h2] at q;exact ⟨.str i,H,I,⟨_,rfl⟩,q⟩
     · rename_i h2;rw [if_neg h2] at q;refine ⟨?_,⟨.str _,H,I.tok _,⟨_,rfl⟩,q⟩⟩;show ((E6 n.toNat i.cps).foldl (· ++ ·) #[]).size≤sizeLine;rw [lU];have:=oZ (a:=i.length) (n:=n.toNat) hc.1 (by omega);have e:i.cps.size=i.length:=rfl;rw [e];simpa using this
theorem za:OpR X (GE .Mult) (fun x y H Q=>vg x y H Q∨rI CMul (fun i j=>.int (i * j)) x y H Q):=op_mulS.or tj
theorem zb:GOp X (fun x y H Q=>vg x y H Q∨rI CMul (fun i j=>.int (i * j)) x y H Q) y9:=by
 intro dx dy x y H Q rx ry o;cases dx with
 | str i =>
  cases dy with
  | int n =>
   have o2:Out X H (if i.length≤1000∧-1000≤n∧n≤1000 then some (.ok (.str (strMul i n))) else none) Q:=o;by_cases hc:i.length≤1000∧-1000≤n∧n≤1000
   · rw [if_pos hc] at o2;exact .inl ⟨i,n,rx,ry,hc,o2 _ H (.refl H) rfl⟩
   · rw [if_neg hc] at o2;exact o2.elim
  | _=>exact (show False from o).elim
 | _=>exact .inr (yB _ _ x y H Q rx ry o)
end
end FD
namespace FD
open PySem PySem.Spec PyProof.Rows L2 PySem.W
def xiB (K:ck) (C:k_):Bool:=findIn K (.ref C) "__getattribute__" == some (some (.builtin "BaseException.__getattribute__")) && findIn K (.ref C) "__getattr__" == some none && findIn K (.ref C) "__class__" == some (some (.builtin "object.__class__")) &&
 specialIn K (.builtin "object.__class__") "__get__" == some (some (.builtin "getset_descriptor.__get__")) && takesIn K (.builtin "object.__class__") == some b_ && mroIn K C (.type "object") == some b_ && mroIn K C (.type "BaseException") == some b_
theorem Cp {K:ck} {C:k_} (h:xiB K C=b_):XI K C:=by
 unfold xiB at h;simp only [i_,beq_iff_eq] at h;exact ⟨h.1.1.1.1.1.1,h.1.1.1.1.1.2,h.1.1.1.1.2,h.1.1.1.2,h.1.1.2,h.1.2,h.2⟩
structure XAll (K:ck) (m:Nat) (cls:Nat→k_) (CJ:k_):Prop where
 at_:∀ c,c < m→nsIn K x_ (xnm c)=some (some (.ref (cls c)))∧excIn K (cls c) bmV "ValueError.__new__"=b_∧XI K (cls c)∧mroIn K (cls c) (.ref CJ)=some b_∧kitOne K (.ref (cls c)) (.type "ValueError")=some b_∧∀ d,d < m→kitOne K (.ref (cls c)) (.ref (cls d))=some (c == d)
 exJ:excIn K CJ bmV "ValueError.__new__"=b_
section
variable {K:ck} {m:Nat} {cls:Nat→k_} {CJ:k_} (x:XAll K m cls CJ)
include x
theorem XAll.xc (c:Nat) (h:c < m):XC K c (cls c):=⟨(x.at_ c h).1,(x.at_ c h).2.1⟩
theorem XAll.same {c:Nat} {C:k_} (h:c < m) (q:nsIn K x_ (xnm c)=some (some (.ref C))):C=cls c:=by
 have z:=(x.at_ c h).1;rw [q] at z;cases z;rfl
theorem XAll.xk:∀ c C,c < m→nsIn K x_ (xnm c)=some (some (.ref C))→excIn K C bmV "ValueError.__new__"=b_∧mroIn K C (.ref CJ)=some b_:=fun c C h q=>by
 rw [x.same h q];exact ⟨(x.at_ c h).2.1,(x.at_ c h).2.2.2.1⟩
theorem XAll.xtO (d:Nat) (hd:d < m):XT K (fun c=>if c < m then some (c == d) else none) (.ref (cls d)):=fun c b hb C q=>by
 dsimp only at hb;split at hb
 · rename_i h;cases hb;rw [x.same h q];exact ⟨(x.at_ c h).2.2.1,(x.at_ c h).2.2.2.2.2 d hd⟩
 · cases hb
theorem XAll.xtV:XT K (fun c=>if c < m then some b_ else none) (.type "ValueError"):=fun c b hb C q=>by
 dsimp only at hb;split at hb
 · rename_i h;cases hb;rw [x.same h q];exact ⟨(x.at_ c h).2.2.1,(x.at_ c h).2.2.2.2.1⟩
 · cases hb
end
end FD
namespace FD
open PySem
theorem i4:F9 (a_ "ValueError")=some (.type "ValueError"):=by kernel_rfl
end FD
namespace FD
open PySem PySem.Spec PyProof.Rows L2
section
variable {X:Cx}
end
section
variable {X:Cx}
def aH (x y:Dv):Option (Rs Dv):=match x,y with
 | .tup a,.tup b=>if a.length + b.length≤100000 then some (.ok (.tup (a ++ b))) else none
 | x,y=>addD x y
theorem rM {prog:pi} {w:EO} {A:EQ} {E:d_→e_→Prop} {s:e_} {t b:k_} {ws:List d_} {Q:d_→e_→Prop} (ht:MF s.heap t #[]) (hb:MF s.heap b ws.toArray) (h0:Q (.ref b) s) :
 C_ (A_ prog w) A (GE .Add (.ref t) (.ref b)) Q E s:=by
 obtain ⟨⟨cls,dd,data,sl⟩,ho,hc,n,hd⟩:=id ht;obtain ⟨⟨cls2,dd2,data2,sl2⟩,ho2,hc2,n2,hd2⟩:=id hb;simp only at hc hd hc2 hd2;subst hc hd hc2 hd2;exact Lu ⟨_,ho,rfl⟩ ⟨_,ho2,rfl⟩ JH K0 H4 HP (Hx _ _)
  (tuple_addW0 t b #[] ws.toArray n n2 dd dd2 sl sl2 (by simp)) ⟨ho,ho2,h0⟩
def tV (K:ck):R2:=fun x y H Q=>∃ a b ys,x=.ref a∧y=.ref b∧SqT K H a []∧SqT K H b ys∧Q (.ref b) H
theorem rN:OpR X (GE .Add) (tV X.K):=by
 intro f' s σ H x y v u Q I rx ry h;obtain ⟨a,b,ys,rfl,rfl,ha,hb,q⟩:=h;cases rx;cases ry;obtain ⟨its,r1,p1,_⟩:=I.tuple ha;obtain ⟨its2,r2,p2,_⟩:=I.tuple hb;cases r1;exact rM p1 p2 ⟨.ref b,H,I,rfl,q⟩
def zc (X:Cx):R2:=fun x y H Q=>uU x y H Q∨(xW X.K x y H Q∨tV X.K x y H Q)
theorem zd:OpR X (GE .Add) (zc X):=o_add.or (op_catT.or rN)
theorem o4 {x y:Dv} (h:∀ a b,¬ (x=.tup a∧y=.tup b)):aH x y=addD x y:=by
 unfold aH;split
 · rename_i a b;exact absurd ⟨rfl,rfl⟩ (h a b)
 · rfl
theorem ze:GOp X (zc X) aH:=by
 intro dx dy x y H Q rx ry o;by_cases hc:∃ a b,dx=.tup a∧dy=.tup b
 · obtain ⟨a,b,rfl,rfl⟩:=hc;have o':Out X H (if a.length + b.length≤100000 then some (.ok (.tup (a ++ b))) else none) Q:=o;split at o'
   · rename_i hl;obtain ⟨p,xs,rfl,h1,q1⟩:=rx.tupE;obtain ⟨p2,ys,rfl,h2,q2⟩:=ry.tupE;cases xs with
     | nil =>
      have ha:a=[]:=by
       have:=q1.length;exact G0.mp this.symm
      subst ha;exact .inr (.inr ⟨p,p2,ys,rfl,rfl,SqT.of h1,SqT.of h2,o' _ H (.refl H) ⟨p2,ys,rfl,h2,by simpa using q2⟩⟩)
     | cons x0 xs =>
      refine .inr (.inl ⟨p,p2,x0 :: xs,ys,rfl,rfl,SqT.of h1,SqT.of h2,by simp,by rw [q1.length,q2.length]; exact br hl,fun hy=>?_,fun hy l hl=>o' _ _ (aA hl _) ⟨l,_,rfl,ar,Reps.mono (aA hl _) _ _ (q1.append q2)⟩⟩);subst hy;have hb:b=[]:=G0.mp q2.length.symm;subst hb;exact o' _ H (.refl H) ⟨p,_,rfl,h1,by simpa using q1⟩
   · exact o'.elim
 · rw [o4 (fun a b h=>hc ⟨a,b,h⟩)] at o;exact .inl (yA dx dy x y H Q rx ry o)
theorem eX {prog:pi} {w:EO} {A:EQ} {E:d_→e_→Prop} {s:e_} {t sl:k_} {items:Array d_} {vl vu:d_} {lo hi:Option Int} {Q:d_→e_→Prop} (ht:MF s.heap t items) (hs:s.heap.IsSliceOf sl vl vu .none) (pl:J0 vl lo) (pu:J0 vu hi)
 (hw:HT.sIx items.size 0 lo=0∧HT.sIx items.size items.size hi=items.size) (h:Q (.ref t) s):C_ (A_ prog w) A (JU (.ref t) (.ref sl)) Q E s:=by
 obtain ⟨os,hos,hcs,hds⟩:=id hs;have hTs:s.TypeIs (.ref sl) "slice":=⟨os,hos,hcs⟩;unfold JU
 try with_reducible refine FX ?_
 first | refine ge (m_ ?_) | skip
 refine ge (wpAny_sequenceKey ht.typeIs (by decide) ?_);refine ge (JG (name:=a_ "__getitem__") ht.typeIs FL
  (wpAny_call_entry FL ht.typeIs entry_tuple_getitem ?_ (args_tuple_getitem _ _)))
 show C_ _ _ (Jh (.ref t) >>= _) _ _ s;refine ge (tupleItemsOf_ ht ?_);refine ge (JR hTs ?_);rw [if_pos (by decide)];refine ge (HT.sliceApplied_gen hs pl pu ?_);have hyes:(((HT.sIx items.size 0 lo:Nat):Int) == 0 && (1:Int) == 1 && (HT.sIx items.size items.size hi - HT.sIx items.size 0 lo) == items.size)=b_:=by
  rw [hw.1,hw.2];simp
 show C_ _ _ (if (((HT.sIx items.size 0 lo:Nat):Int) == 0 && (1:Int) == 1 && (HT.sIx items.size items.size hi - HT.sIx items.size 0 lo) == items.size)=b_ then _ else _) _ _ s;rw [if_pos hyes];refine ge (ge (JR ht.typeIs (m_ ?_)));rw [if_pos (by decide)];exact ge (wpAny_rule (m_ ⟨_,rfl,m_ h⟩))
def Ep (K:ck):V→Option Int→Option Int→Hp→VK→Prop:=fun x lo hi H Q=>∃ a xs,x=.ref a∧SqT K H a xs ∧
 (HT.sIx xs.length 0 lo=0∧HT.sIx xs.length xs.length hi=xs.length)∧Q (.ref a) H
theorem rO:SlR X (Ep X.K):=by
 intro f' s σ H x v vl vu lo hi sl Q I rx hs pl pu h;obtain ⟨a,xs,rfl,hx,hw,q⟩:=h;cases rx;obtain ⟨its,r,ht,hz⟩:=I.tuple hx;have hlen:its.toArray.size=xs.length:=by rw [v_]; exact r.length.symm
 refine ⟨"tuple",_,FL.lookup,ht.typeIs,?_⟩;exact eX ht hs pl pu (by rw [hlen]; exact hw) ⟨.ref a,H,I,rfl,q⟩
def zf (x:Dv) (lo hi:Option Int):Option (Rs Dv):=match x with
 | .tup xs=>some (.ok (.tup (fv xs lo hi)))
 | x=>Bo x lo hi
def aw (fa:FnE) (fl fh:FnO):FnE:=fun ρ=>bnd (fa ρ) fun x=>bnd (fl ρ) fun lo=>bnd (fh ρ) fun hi=>zf x lo hi
theorem mT {α:Type} {xs:List α} {lo hi:Option Int} (h:HT.sIx xs.length 0 lo=0∧HT.sIx xs.length xs.length hi=xs.length):fv xs lo hi=xs:=by
 unfold fv;rw [h.1,h.2];simp
theorem vi {a:D_} {lo hi:Option D_} {fa:FnE} {fl fh:FnO} {p2 pos:Pos} (ha:FE X a fa) (hl:FO X lo fl) (hh:FO X hi fh):FE X (.Subscript a (.Slice lo hi none p2) pos) (aw fa fl fh) :=
 bR (lH ((sl_str.or oi).or (sl_tup.or rO)) ha.h hl.h hh.h) fun σ H Q ρ E o=>⟨ρ,E,Out.bind o fun d v H1 e1 r1 o1=>⟨ρ,E.mono e1,fH o1 fun l H2 e2 o2=>⟨ρ,(E.mono e1).mono e2,fH o2 fun u H3 e3 o3=>by
  have r3:=Rep.mono e3 d v (Rep.mono e2 d v r1);cases d <;> try exact (show False from o3).elim
  · rename_i z;unfold zf Bo at o3;dsimp only at o3;split at o3
    · rename_i hz;exact .inl (.inl ⟨z,r3,br hz,o3 _ H3 (.refl H3) rfl⟩)
    · exact o3.elim
  · rename_i ds;obtain ⟨a',xs,rfl,h1,h2⟩:=r3.tupE;have hlen:=h2.length;by_cases hw:HT.sIx xs.length 0 l=0∧HT.sIx xs.length xs.length u=xs.length
    · refine .inr (.inr ⟨a',xs,rfl,SqT.of h1,hw,o3 _ H3 (.refl H3) ⟨a',xs,rfl,h1,?_⟩⟩);rw [mT (by rw [← hlen]; exact hw)];exact h2
    · refine .inr (.inl ⟨a',xs,rfl,SqT.of h1,hw,fun p hp=>o3 _ _ (aA hp _) ⟨p,_,rfl,ar,Reps.mono (aA hp _) _ _ ?_⟩⟩);unfold qX fv;rw [h2.length];exact (h2.drop _).take _
  · rename_i ds;obtain ⟨a',xs,rfl,h1,h2⟩:=r3.lstE;refine .inl (.inr ⟨a',xs,rfl,SqL.of h1,fun p hp=>o3 _ _ (aA hp _) ⟨p,_,rfl,ar,Reps.mono (aA hp _) _ _ ?_⟩⟩);unfold qX fv;rw [h2.length];exact (h2.drop _).take _⟩⟩⟩
theorem eR {α β:Type} {f:α→Option β} {g:α→β}:∀ (l:List α),(∀ m,m∈l→f m=some (g m))→l.filterMap f=l.map g
 | [],_=>rfl
 | x :: l,h=>by
  rw [Gp,h x (by simp),Fe,eR l fun m hm=>h m (f_ _ hm)]
theorem o5 (xs:List d_):((l_ xs.length).filterMap fun (m:Nat)=>xs.toArray[((xs.length:Int) - 1 + (m:Int) * -1).toNat]?).toArray=xs.reverse.toArray:=by
 congr 1;apply Ig;have e:∀ m,m∈l_ xs.length→(xs.toArray[((xs.length:Int) - 1 + (m:Int) * -1).toNat]?)=some (xs.reverse[m]?.getD .none):=fun m hm=>by
  have hm':m < xs.length:=Fd.mp hm;have h1:((xs.length:Int) - 1 + (m:Int) * -1).toNat=xs.length - 1 - m:=by omega
  rw [h1,Kn,List.getElem?_reverse hm',Ff (by omega)];rfl
 intro i;rw [eR _ e];by_cases hi:i < xs.length
 · rw [Fh,IL hi];show some (xs.reverse[i]?.getD .none)=_;rw [Ff (by simpa using hi)];rfl
 · rw [FY (by simpa using hi),FY (by simpa using hi)]
theorem Reps.reverse {K:ck} {H:Hp}:∀ {ds:List Dv} {vs:List V},Reps K H ds vs→Reps K H ds.reverse vs.reverse
 | [],vs,r=>by cases (show vs=[] from r); exact r
 | d :: ds,vs,r=>by
  obtain ⟨v,us,rfl,r1,r2⟩:∃ v us,vs=v :: us∧Rep K H d v∧Reps K H ds us:=r;rw [GP,GP];exact (Reps.reverse r2).append ⟨v,[],rfl,r1,rfl⟩
theorem Vals.reverse:∀ {xs:List V} {us:List d_},Vals xs us→Vals xs.reverse us.reverse
 | _,_,.nil=>.nil
 | x :: xs,u :: us,.cons r t=>by
  rw [GP,GP];exact (Vals.reverse t).append (.cons r .nil)
def inP (x:Dv) (ys:List Dv):Option Bool:=if okP x && h_ ((bP x).depth≤63) && F6 (toPys ys) then some ((toPys ys).any fun y=>FH y (bP x)) else none
def tW (x y:Dv):Option Bool:=match yE x y with
 | some b=>some b
 | none=>match y with
  | .lst ys=>inP x ys
  | .tup ys=>inP x ys
  | _=>none
def inX (x y:Dv):Option (Rs Dv):=match tW x y with
 | some b=>some (.ok (.bl b))
 | none=>none
def fI (x y:Dv):Option (Rs Dv):=match tW x y with
 | some b=>some (.ok (.bl (!b)))
 | none=>none
def Bq (X:Cx) (neg:Bool):R2:=fun x y H Q=>∃ dx ys b,Rep X.K H dx x∧(Rep X.K H (.lst ys) y∨Rep X.K H (.tup ys) y)∧inP dx ys=some b∧Q (.bl (if neg then !b else b)) H
theorem zg (hu:X.A.units + 64 < cLine):OpR X (Fp .In) (Bq X c_):=by
 intro f' s σ H x y v u Q I rx ry h;obtain ⟨dx,ys,b,qx,qy,hb,q⟩:=h;unfold inP at hb;split at hb
 · rename_i hc;cases hb;obtain ⟨⟨c1,c2⟩,c3⟩:(okP dx=b_∧(bP dx).depth≤63)∧F6 (toPys ys)=b_:=by simpa using hc
   obtain ⟨as,ra⟩:=Rep.reads I dx x v qx rx (Fz.mp c1).1;have hd:X.A.units + 1 + min (GL (toPys ys)) (bP dx).depth < cLine:=by
    have:=JN (GL (toPys ys)) (bP dx).depth;omega
   rcases qy with qy | qy
   · obtain ⟨bs,rb⟩:=Rep.reads I (.lst ys) y u qy ry (by simpa [bP,F8] using c3);exact SeqAt.in_list_reads rb ra c3 (Fz.mp c1).1 hd ⟨.bl _,H,I,rfl,q⟩
   · obtain ⟨bs,rb⟩:=Rep.reads I (.tup ys) y u qy ry (by simpa [bP,F8] using c3);exact SeqAt.in_tuple_reads rb ra c3 (Fz.mp c1).1 hd ⟨.bl _,H,I,rfl,q⟩
 · cases hb
theorem o6 (hu:X.A.units + 64 < cLine):OpR X (Fp .NotIn) (Bq X b_):=by
 intro f' s σ H x y v u Q I rx ry h;obtain ⟨dx,ys,b,qx,qy,hb,q⟩:=h;unfold inP at hb;split at hb
 · rename_i hc;cases hb;obtain ⟨⟨c1,c2⟩,c3⟩:(okP dx=b_∧(bP dx).depth≤63)∧F6 (toPys ys)=b_:=by simpa using hc
   obtain ⟨as,ra⟩:=Rep.reads I dx x v qx rx (Fz.mp c1).1;have hd:X.A.units + 1 + min (GL (toPys ys)) (bP dx).depth < cLine:=by
    have:=JN (GL (toPys ys)) (bP dx).depth;omega
   rcases qy with qy | qy
   · obtain ⟨bs,rb⟩:=Rep.reads I (.lst ys) y u qy ry (by simpa [bP,F8] using c3);exact SeqAt.notIn_list_reads rb ra c3 (Fz.mp c1).1 hd ⟨.bl _,H,I,rfl,q⟩
   · obtain ⟨bs,rb⟩:=Rep.reads I (.tup ys) y u qy ry (by simpa [bP,F8] using c3);exact SeqAt.notIn_tuple_reads rb ra c3 (Fz.mp c1).1 hd ⟨.bl _,H,I,rfl,q⟩
 · cases hb
def DP (X:Cx):R2:=fun x y H Q=>B9 X.K x y H Q∨Bq X c_ x y H Q
def o7 (X:Cx):R2:=fun x y H Q=>kP X.K x y H Q∨Bq X b_ x y H Q
theorem Cq (hu:X.A.units + 64 < cLine):OpR X (Fp .In) (DP X):=o_in.or (zg hu)
theorem rP (hu:X.A.units + 64 < cLine):OpR X (Fp .NotIn) (o7 X):=o_notIn.or (o6 hu)
theorem Cr:GOp X (DP X) inX:=by
 intro dx dy x y H Q rx ry o;unfold inX tW at o
 match h0:yE dx dy with
 | some b =>
  rw [h0] at o;exact .inl (DJ dx dy x y H Q rx ry (by unfold inD; rw [h0]; exact o))
 | none =>
  rw [h0] at o;cases dy <;> try exact (show False from o).elim
  · rename_i ys
    match hp:inP dx ys with
    | none=>simp only [hp] at o; exact (show False from o).elim
    | some b=>simp only [hp] at o; exact .inr ⟨dx,ys,b,rx,.inr ry,hp,o _ H (.refl H) rfl⟩
  · rename_i ys
    match hp:inP dx ys with
    | none=>simp only [hp] at o; exact (show False from o).elim
    | some b=>simp only [hp] at o; exact .inr ⟨dx,ys,b,rx,.inl ry,hp,o _ H (.refl H) rfl⟩
theorem rQ:GOp X (o7 X) fI:=by
 intro dx dy x y H Q rx ry o;unfold fI tW at o
 match h0:yE dx dy with
 | some b =>
  rw [h0] at o;exact .inl (kQ dx dy x y H Q rx ry (by unfold dh; rw [h0]; exact o))
 | none =>
  rw [h0] at o;cases dy <;> try exact (show False from o).elim
  · rename_i ys
    match hp:inP dx ys with
    | none=>simp only [hp] at o; exact (show False from o).elim
    | some b=>simp only [hp] at o; exact .inr ⟨dx,ys,b,rx,.inr ry,hp,o _ H (.refl H) rfl⟩
  · rename_i ys
    match hp:inP dx ys with
    | none=>simp only [hp] at o; exact (show False from o).elim
    | some b=>simp only [hp] at o; exact .inr ⟨dx,ys,b,rx,.inl ry,hp,o _ H (.refl H) rfl⟩
end
abbrev zh (its:List d_) (n:Nat):Obj:={ cls:=.type "list",data:=.seq its.toArray n }
section
variable {X:Cx} {f':List (k_×Obj)} {σ:L2.St} {H:Hp} {s:e_} {a:k_} {xs:List V}
theorem Inv.untrack (I:Inv X f' σ (upd H a (.lst xs)) s) (ha:H a=none) (hex:X.ex=[]):∃ its n,Vals xs its∧xs.length≤sizeLine∧(∀ o,X.s₀.heap.get? a=some o→X.H₀ a≠none)∧(∀ p∈X.pn ++ f',p.1≠a)∧Inv X (f' ++ [(a,zh its n)]) σ H s:=by
 obtain ⟨z,its,n,rv,hl,e⟩:=I.lstM (l:=a) (xs:=xs) ar;have hb:∀ b u,H b=some u→b≠a:=fun b u q=>av q ha;have low:∀ b,upd H a (.lst xs) b=none→H b=none:=fun b q=>by
  by_cases hba:b=a
  · rw [hba]; exact ha
  · rw [ay hba] at q; exact q
 have dn:∀ b u,upd H a (.lst xs) b=some u→(∀ ys,u≠.lst ys)→H b=some u:=fun b u q hu=>by
  by_cases hba:b=a
  · rw [hba,ar] at q;exact absurd (Fj q).symm (hu xs)
  · rw [ay hba] at q; exact q
 have nfs:a ∉ X.fs:=fun hm=>by
  obtain ⟨_,o,ho,_⟩:=I.ok.funs.mem hm;have:=I.base.free a o ho (I.ok.frf a hm) (by rw [hex]; simp);rw [ar] at this;cases this
 have npin:∀ p∈X.pn ++ f',p.1≠a:=fun p hp w=>by
  have:=(I.pin p hp).2.1;rw [w,ar] at this;cases this
 refine ⟨its,n,rv,z,fun o ho h0=>?_,npin,⟨I.ok,I.os,I.bare,⟨I.base.keep,I.base.slot,fun b o q n hx=>low b (I.base.free b o q n hx),I.base.there,fun b ys q=>dn b _ (I.base.tups b ys q) (fun _ w=>by cases w),fun b o u q=>dn b _ (I.base.frzs b o u q) (fun _ w=>by cases w),fun b ps q=>?_⟩,I.loc,I.cell,low _ I.free,fun x c q=>low _ (I.freeC x c q),fun p hp=>?_,fun b u q=>?_,I.len⟩⟩
 · have:=I.base.free a o ho h0 (by rw [hex]; simp);rw [ar] at this;cases this
 · obtain ⟨more,q'⟩:=I.base.tbls b ps q;exact ⟨more,dn b _ q' (fun _ w=>by cases w)⟩
 · rcases t_.mp hp with h1 | h1
   · obtain ⟨q1,q2,q3⟩:=I.pin p (ET _ h1);exact ⟨q1,low _ q2,q3⟩
   · rcases t_.mp h1 with h1 | h1
     · obtain ⟨q1,q2,q3⟩:=I.pin p (o_ _ h1);exact ⟨q1,low _ q2,q3⟩
     · simp only [Fc] at h1;subst h1;refine ⟨e,ha,fun w=>?_,nfs,fun v w=>by cases w⟩;obtain ⟨m,⟨o,es,ep,ho,hd,_⟩,_⟩:=I.loc;have w':a=X.env.locals:=w;rw [← w',e] at ho;cases ho;cases hd
 · have hq:upd H a (.lst xs) b=some u:=by rw [ay (hb b u q)]; exact q
   refine (I.hok b u hq).stay (fun _ _ _ w=>w) (fun c w=>dn c _ w (fun _ w=>by cases w)) (fun c ys w=>dn c _ w (fun _ w=>by cases w)) fun c _ _ w=>dn c _ w (fun _ w=>by cases w)
theorem Inv.retrack {its:List d_} {n:Nat} (I:Inv X (f' ++ [(a,zh its n)]) σ H s) (rv:Vals xs its) (hz:xs.length≤sizeLine) (h0:∀ o,X.s₀.heap.get? a=some o→X.H₀ a≠none) (hp0:∀ p∈X.pn ++ f',p.1≠a):H a=none∧Inv X f' σ (upd H a (.lst xs)) s:=by
 obtain ⟨e,ha,nL,nf,nc⟩:=I.pin (a,zh its n) (o_ _ (o_ _ (by simp)));have up:∀ b u,H b=some u→upd H a (.lst xs) b=some u:=fun b u q=>by rw [ay (av q ha)]; exact q
 have lo:∀ b,H b=none→b≠a→upd H a (.lst xs) b=none:=fun b q h=>by rw [ay h]; exact q
 refine ⟨ha,⟨I.ok,I.os,I.bare,⟨I.base.keep,I.base.slot,fun b o q n hx=>lo b (I.base.free b o q n hx) (fun w=>h0 o (w ▸ q) (w ▸ n)),I.base.there,fun b ys q=>up b _ (I.base.tups b ys q),fun b o u q=>up b _ (I.base.frzs b o u q),fun b ps q=>?_⟩,I.loc,I.cell,lo _ I.free (HC nL),fun x c q=>lo _ (I.freeC x c q) (fun w=>?_),fun p hp=>?_,fun b u q=>?_,I.len⟩⟩
 · obtain ⟨more,q'⟩:=I.base.tbls b ps q;exact ⟨more,up b _ q'⟩
 · obtain ⟨v,o,ho,hd⟩:=I.cell x c q;rw [w] at ho;have e':s.heap.get? a=some (zh its n):=e;rw [e'] at ho;cases ho;cases hd
 · obtain ⟨q1,q2,q3⟩:=I.pin p (by
    rcases t_.mp hp with h1 | h1
    · exact ET _ h1
    · exact o_ _ (ET _ h1))
   exact ⟨q1,lo _ q2 (hp0 p hp),q3⟩
 · by_cases hb:b=a
   · subst hb;rw [ar] at q;cases q;exact ⟨hz,its,n,rv,e⟩
   · rw [ay hb] at q;exact (I.hok b u q).stay (fun _ _ _ w=>w) (fun c w=>up c _ w) (fun c ys w=>up c _ w) fun c _ _ w=>up c _ w
end
def Ct (t:TE):TE:=fun σ Hf Q=>∃ H a xs,Hf=upd H a (.lst xs)∧H a=none∧t σ H fun v H'=>H' a=none→Q v (upd H' a (.lst xs))
def Cu (t:TT):TT:=fun σ Hf Q=>∃ H a xs,Hf=upd H a (.lst xs)∧H a=none∧t σ H fun v H'=>H' a=none→Q v (upd H' a (.lst xs))
def Cv (t:TA):TA:=fun σ Hf Q=>∃ H a xs,Hf=upd H a (.lst xs)∧H a=none∧t σ H fun v H'=>H' a=none→Q v (upd H' a (.lst xs))
def Cw (t:TI):TI:=fun σ Hf Q=>∃ H a xs,Hf=upd H a (.lst xs)∧H a=none∧t σ H fun v H'=>H' a=none→Q v (upd H' a (.lst xs))
section
variable {X:Cx} {e:D_} {es:List D_}
theorem kZ (hex:X.ex=[]) {t:TE} (h:PE X e t):PE X e (Ct t):=by
 intro f' s σ Hf Q I ⟨H,a,xs,e1,ha,q⟩;subst e1;obtain ⟨its,n,rv,hz,h0,hp,I'⟩:=Inv.untrack I ha hex;refine thn (h _ s σ H _ I' q) fun u s' ⟨v,H',I2,r,q2⟩=>?_;obtain ⟨ha',I3⟩:=Inv.retrack I2 rv hz h0 hp;exact ⟨v,_,I3,r,q2 ha'⟩
theorem vj (hex:X.ex=[]) {t:TT} (h:PT X e t):PT X e (Cu t):=by
 intro f' s σ Hf Q I ⟨H,a,xs,e1,ha,q⟩;subst e1;obtain ⟨its,n,rv,hz,h0,hp,I'⟩:=Inv.untrack I ha hex;refine thn (h _ s σ H _ I' q) fun u s' ⟨H',I2,q2⟩=>?_;obtain ⟨ha',I3⟩:=Inv.retrack I2 rv hz h0 hp;exact ⟨_,I3,q2 ha'⟩
theorem vk (hex:X.ex=[]) {t:TA} (h:PA X es t):PA X es (Cv t):=by
 intro pos f' s σ Hf Q I ⟨H,a,xs,e1,ha,q⟩;subst e1;obtain ⟨its,n,rv,hz,h0,hp,I'⟩:=Inv.untrack I ha hex;refine thn (h pos _ s σ H _ I' q) fun u s' ⟨v,H',I2,r,q2⟩=>?_;obtain ⟨ha',I3⟩:=Inv.retrack I2 rv hz h0 hp;exact ⟨v,_,I3,r,q2 ha'⟩
theorem o8 (hex:X.ex=[]) {tg:D_} {t:TI} (h:PI X tg e t):PI X tg e (Cw t):=by
 intro f' s σ Hf R I ⟨H,a,xs,e1,ha,q⟩;subst e1;obtain ⟨its,n,rv,hz,h0,hp,I'⟩:=Inv.untrack I ha hex;refine thn (h _ s σ H _ I' q) fun u s1 hs1=>thn hs1 fun itv s2 ⟨it,fp,tn,J,H',e2,I2,T,t0,fpo,q2⟩=>?_;obtain ⟨ha',I3⟩:=Inv.retrack I2 rv hz h0 hp;refine ⟨it,fp,tn,J,_,e2,I3,T,t0,fun b hb=>?_,q2 ha'⟩;obtain ⟨g0,g1,g2,g3,g4,g5⟩:=fpo b hb;have hba:b≠a:=fun w=>g5 (a,zh its n) (o_ _ (o_ _ (by simp))) w.symm;refine ⟨by rw [ay hba]; exact g0,g1,g2,g3,g4,fun p hp'=>g5 p ?_⟩;rcases t_.mp hp' with w | w
 · exact ET _ w
 · exact o_ _ (ET _ w)
end
mutual
def imm:Dv→Bool
 | .non=>b_
 | .bl _=>b_
 | .int _=>b_
 | .str _=>b_
 | .tup ds=>imms ds
 | .lst _=>c_
 | .scr _=>c_
 | .exn _=>c_
def imms:List Dv→Bool
 | []=>b_
 | d :: ds=>imm d && imms ds
end
section
variable {K:ck} {H H':Hp}
mutual
theorem Rep.tups (k:∀ b ys,H b=some (.tup ys)→H' b=some (.tup ys)):∀ (d:Dv) (v:V),imm d=b_→Rep K H d v→Rep K H' d v
 | .non,_,_,h=>h
 | .bl _,_,_,h=>h
 | .int _,_,_,h=>h
 | .str _,_,_,h=>h
 | .tup ds,v,i,h=>by
  obtain ⟨a,xs,r,h,q⟩:=h.tupE;exact ⟨a,xs,r,k _ _ h,Reps.tups k ds xs (by simpa [imm] using i) q⟩
 | .lst _,_,i,_=>by simp [imm] at i
 | .scr _,_,i,_=>by simp [imm] at i
 | .exn _,_,i,_=>by simp [imm] at i
theorem Reps.tups (k:∀ b ys,H b=some (.tup ys)→H' b=some (.tup ys)):∀ (ds:List Dv) (vs:List V),imms ds=b_→Reps K H ds vs→Reps K H' ds vs
 | [],_,_,h=>h
 | d :: ds,vs,i,h=>by
  obtain ⟨v,us,r,h,q⟩:∃ v us,vs=v :: us∧Rep K H d v∧Reps K H ds us:=h;have i':imm d=b_∧imms ds=b_:=by simpa [imms] using i
  exact ⟨v,us,r,Rep.tups k d v i'.1 h,Reps.tups k ds us i'.2 q⟩
end
end
inductive Fo where
 | nx (ρ:Ev) (ds:List Dv)
 | rt (d:Dv)
abbrev dD:=Ev→List Dv→Option Fo
def OutW (X:Cx) (i:Nat) (a:k_) (H:Hp) (o:Option Fo) (D:qS):Prop:=match o with
 | none=>False
 | some (.rt d)=>∀ v H',Same H H'→Rep X.K H' d v→D.rt v H'
 | some (.nx ρ ds)=>∀ σ H' xs,Same H H'→H' a=none→σ[i]?=some (some (.ref a))→Envs X.K H' σ ρ→Reps X.K H' ds xs→D.nx σ (upd H' a (.lst xs))
theorem OutW.mono {X:Cx} {i:Nat} {a:k_} {H H':Hp} {D:qS} (e:Same H H'):∀ {o:Option Fo},OutW X i a H o D→OutW X i a H' o D
 | none,h=>h
 | some (.rt _),h=>fun v H1 e1 r=>h v H1 (e.trans e1) r
 | some (.nx _ _),h=>fun σ H1 xs e1=>h σ H1 xs (e.trans e1)
def tO (X:Cx) (i:Nat) (f:dD):TS:=fun D σ Hf=>∃ H a xs ρ ds,Hf=upd H a (.lst xs)∧H a=none∧σ[i]?=some (some (.ref a))∧Envs X.K H σ ρ∧Reps X.K H ds xs∧OutW X i a H (f ρ ds) D
structure FO1 (X:Cx) (i:Nat) (st:F_) (f:dD):Prop where
 h:PS X st (tO X i f)
structure FOs (X:Cx) (i:Nat) (st:List F_) (f:dD):Prop where
 h:PSs X st (tO X i f)
def lV {α:Type} (o:Option (Rs α)) (k:α→Option Fo):Option Fo:=match o with
 | some (.ok a)=>k a
 | _=>none
def tX:dD:=fun ρ ds=>some (.nx ρ ds)
def bK (f g:dD):dD:=fun ρ ds=>match f ρ ds with
 | some (.nx ρ' ds')=>g ρ' ds'
 | o=>o
def dj (j:Nat) (f:FnE):dD:=fun ρ ds=>lV (f ρ) fun d=>some (.nx (ρ.set j (some d)) ds)
def oIf (c:FnB) (f g:dD):dD:=fun ρ ds=>lV (c ρ) fun k=>if k then f ρ ds else g ρ ds
def vm (i:Nat) (c:FnB) (f g:dD):dD:=fun ρ ds=>lV (c (ρ.set i (some (.lst ds)))) fun k=>if k then f ρ ds else g ρ ds
def ny (i:Nat) (f:FnE):dD:=fun ρ ds=>lV (f (ρ.set i (some (.lst ds)))) fun d=>some (.rt d)
def gC (f:FnE):dD:=fun ρ ds=>if ds.length < 100000 then lV (f ρ) fun d=>some (.nx ρ (ds ++ [d])) else none
section
variable {X:Cx} {i:Nat} {st:F_} {sts:List F_} {f g:dD} {fe:FnE} {gb:FnB} {e c:D_} {pos:Pos}
theorem o9 {H Hf:Hp} {a:k_} {xs:List V} (ha:H a=none) (e:Same (upd H a (.lst xs)) Hf):∃ H',Hf=upd H' a (.lst xs)∧H' a=none∧Same H H':=by
 refine ⟨fun b=>if b=a then none else Hf b,?_,by simp,fun b u q=>?_⟩
 · funext b;by_cases hb:b=a
   · subst hb;rw [ar];exact e b _ ar
   · rw [ay hb];simp [hb]
 · have hb:b≠a:=av q ha;simp only [hb,if_false];exact e b u (by rw [ay hb]; exact q)
theorem cq {H:Hp} {a:k_} {xs:List V} (ha:H a=none):Same H (upd H a (.lst xs)):=aA ha _
theorem dY {H:Hp} {a:k_} {xs:List V} {σ:L2.St} {ρ:Ev} {ds:List Dv} (ha:H a=none) (hi:σ[i]?=some (some (.ref a))) (E:Envs X.K H σ ρ) (r:Reps X.K H ds xs):Envs X.K (upd H a (.lst xs)) σ (ρ.set i (some (.lst ds))):=by
 have E':=E.mono (cq (xs:=xs) ha);refine ⟨by rw [Fu]; exact E'.len,fun j d hj=>?_⟩;by_cases hij:i=j
 · subst hij;by_cases hl:i < ρ.length
   · rw [E7 hl] at hj;cases hj;exact ⟨.ref a,hi,a,xs,rfl,ar,Reps.mono (cq ha) _ _ r⟩
   · rw [FY (by rw [Fu]; omega)] at hj;cases hj
 · rw [EU hij] at hj;exact E'.at' j d hj
theorem vn:FOs X i [] tX:=⟨fun f' s σ Hf D I ⟨H,a,xs,ρ,ds,e1,ha,hi,E,r,o⟩=>by
 subst e1;exact nN f' s σ _ D I (o σ H xs (.refl H) ha hi E r)⟩
theorem rR (h1:FO1 X i st f) (h2:FOs X i sts g):FOs X i (st :: sts) (bK f g):=⟨fun f' s σ Hf D I ⟨H,a,xs,ρ,ds,e1,ha,hi,E,r,o⟩=>by
 refine gF h1.h h2.h f' s σ Hf D I ⟨H,a,xs,ρ,ds,e1,ha,hi,E,r,?_⟩;unfold bK at o
 match hf:f ρ ds with
 | none=>rw [hf] at o; exact o.elim
 | some (.rt d)=>rw [hf] at o; exact o
 | some (.nx ρ' ds')=>rw [hf] at o; exact fun σ' H' xs' e' ha' hi' E' r'=>⟨H',a,xs',ρ',ds',rfl,ha',hi',E',r',OutW.mono e' o⟩⟩
theorem vo (h1:FO1 X i st f):FOs X i [st] f:=⟨nO h1.h⟩
theorem zi (hex:X.ex=[]) (j:Nat) (hij:i≠j) {x:Str} {pos':Pos} (hN:X.N.Nodup) (hi:X.N[j]?=some x) (hx:Loc X.env.scope x) (he:FE X e fe) (hs:Gr e (some (.Name x pos')) pos.line X.env=pure c_:=by kernel_rfl) (hf:X.fn x=b_∨X.env.scope.names.lookup x=some .local:=by first | exact .inl rfl | exact .inr rfl | assumption) :
 FO1 X i (.Assign [.Name x pos'] e pos) (dj j fe):=⟨fun f' s σ Hf D I ⟨H,a,xs,ρ,ds,e1,ha,hia,E,r,o⟩=>by
 refine lC hN hi hx (kZ hex he.h) hs hf f' s σ Hf D I ⟨H,a,xs,e1,ha,ρ,E,?_⟩;unfold dj at o
 match hfe:fe ρ with
 | none=>rw [hfe] at o; exact o.elim
 | some (.exc _)=>rw [hfe] at o; exact o.elim
 | some (.ok d) =>
  rw [hfe] at o;exact fun v H' e' rd ha'=>o _ H' xs e' ha' (by rw [EU (HC hij)]; exact hia) ((E.mono e').set rd) (Reps.mono e' _ _ r)⟩
theorem Cy (hex:X.ex=[]) {as bs:List F_} (hc:FT X c gb) (ha:FOs X i as f) (hb:FOs X i bs g):FO1 X i (.If c as bs pos) (oIf gb f g):=⟨fun f' s σ Hf D I ⟨H,a,xs,ρ,ds,e1,ha',hia,E,r,o⟩=>by
 refine uB (vj hex hc.h) ha.h hb.h f' s σ Hf D I ⟨H,a,xs,e1,ha',ρ,E,?_⟩;unfold oIf at o
 match hg:gb ρ with
 | none=>rw [hg] at o; exact o.elim
 | some (.exc _)=>rw [hg] at o; exact o.elim
 | some (.ok b_)=>rw [hg] at o; exact fun H' e' h'=>tz ⟨H',a,xs,ρ,ds,rfl,h',hia,E.mono e',Reps.mono e' _ _ r,OutW.mono e' o⟩
 | some (.ok c_)=>rw [hg] at o; exact fun H' e' h'=>tw ⟨H',a,xs,ρ,ds,rfl,h',hia,E.mono e',Reps.mono e' _ _ r,OutW.mono e' o⟩⟩
theorem zj {as bs:List F_} (hc:FT X c gb) (ha:FOs X i as f) (hb:FOs X i bs g):FO1 X i (.If c as bs pos) (vm i gb f g):=⟨fun f' s σ Hf D I ⟨H,a,xs,ρ,ds,e1,ha',hia,E,r,o⟩=>by
 subst e1;refine uB hc.h ha.h hb.h f' s σ _ D I ⟨_,dY ha' hia E r,?_⟩;unfold vm at o
 match hg:gb (ρ.set i (some (.lst ds))) with
 | none=>rw [hg] at o; exact o.elim
 | some (.exc _)=>rw [hg] at o; exact o.elim
 | some (.ok b_) =>
  rw [hg] at o;intro H2 e2;obtain ⟨H',q1,q2,q3⟩:=o9 ha' e2;exact tz ⟨H',a,xs,ρ,ds,q1,q2,hia,E.mono q3,Reps.mono q3 _ _ r,OutW.mono q3 o⟩
 | some (.ok c_) =>
  rw [hg] at o;intro H2 e2;obtain ⟨H',q1,q2,q3⟩:=o9 ha' e2;exact tw ⟨H',a,xs,ρ,ds,q1,q2,hia,E.mono q3,Reps.mono q3 _ _ r,OutW.mono q3 o⟩⟩
theorem zk (he:FE X e fe):FO1 X i (.Return (some e) pos) (ny i fe):=⟨fun f' s σ Hf D I ⟨H,a,xs,ρ,ds,e1,ha',hia,E,r,o⟩=>by
 subst e1;refine tf he.h f' s σ _ D I ⟨_,dY ha' hia E r,?_⟩;unfold ny at o
 match hg:fe (ρ.set i (some (.lst ds))) with
 | none=>rw [hg] at o; exact o.elim
 | some (.exc _)=>rw [hg] at o; exact o.elim
 | some (.ok d)=>rw [hg] at o; exact fun v H2 e2 rd=>o v H2 ((cq ha').trans e2) rd⟩
theorem zm (hex:X.ex=[]) {x:Str} {apos cpos:Pos} (hx:PE X (.Name x apos) (xg i)) (he:FE X e fe)
 (hbase:Ix (.Name x apos) "append" X.env (eval (.Name x apos) X.env)=eval (.Name x apos) X.env:=by kernel_rfl)
 (hfew:((FV cpos (j_ [e] X.env)).all (fun x=>!x.1) && (Lw cpos (Jq [] X.env)).all (fun x=>x.1.isSome)
   && h_ ([e].length + ([]:List Hz).length + (if ([]:List Hz).isEmpty then 0 else 1) < 30))=b_:=by kernel_rfl)
 {ap:Pos} (hline:(ap.endLine == cpos.line)=b_:=by kernel_rfl) (hs:j_ [e] X.env=(c_,eval e X.env) :: j_ [] X.env:=by kernel_rfl) (hplain:(FV cpos (j_ [] X.env)).any (·.1)=c_:=by kernel_rfl)
 (hsw:Gr (.Call (.Attribute (.Name x apos) "append" ap) [e] [] cpos) none pos.line X.env=pure c_:=by kernel_rfl) :
 FO1 X i (.Expr (.Call (.Attribute (.Name x apos) "append" ap) [e] [] cpos) pos) (gC fe):=⟨fun f' s σ Hf D I ⟨H,a,xs,ρ,ds,e1,ha',hia,E,r,o⟩=>by
 refine nP (yb PySem.F.plainAttrs_list IB PySem.F.type_list_append om hx (vk hex (kM he ow hs).h) hbase hfew hline hs hplain) hsw f' s σ Hf D I ?_;unfold gC at o;split at o
 · rename_i hl
   match hfe:fe ρ with
   | none=>rw [hfe] at o; exact o.elim
   | some (.exc _)=>rw [hfe] at o; exact o.elim
   | some (.ok d) =>
    rw [hfe] at o;refine ⟨.ref a,hia,.inl ⟨rfl,xs,SqL.of (by rw [e1]; exact ar)⟩,H,a,xs,e1,ha',ρ,E,?_⟩;show OutA X H (aa fe ag ρ) _;rw [ae hfe ai];intro vs H' e' rs ha2;obtain ⟨v,rfl,rv⟩:=eJ rs;have hz:xs.length < sizeLine:=by
     have:=r.length;have h2:=br (n:=xs.length + 1) (by omega);omega
    refine ⟨a,xs,v,rfl,rfl,ar,hz,?_⟩;rw [nH];exact o σ H' (xs ++ [v]) e' ha2 hia (E.mono e') ((Reps.mono e' _ _ r).append ⟨v,[],rfl,rv,rfl⟩)
 · exact o.elim⟩
end
def qL (i:Nat) (g:FnA) (f:dD):FnS:=fun ρ=>fr (g ρ) fun ds=>if ds.length≤100000 then (match f (ρ.set i none) ds with
 | some (.nx ρ' ds')=>some (.nx (ρ'.set i (some (.lst ds'))))
 | some (.rt d)=>some (.rt d)
 | none=>none) else none
section
variable {X:Cx} {i:Nat} {sts:List F_} {f:dD} {g:FnA} {es:List D_} {pos lp:Pos}
theorem vq {x:Str} {pos':Pos} (hN:X.N.Nodup) (hi:X.N[i]?=some x) (hx:Loc X.env.scope x) (hg:FA X es g) (hr:FOs X i sts f) (hs:Gr (.List es lp) (some (.Name x pos')) pos.line X.env=pure c_:=by kernel_rfl)
 (hf:X.fn x=b_∨X.env.scope.names.lookup x=some .local:=by first | exact .inl rfl | exact .inr rfl | assumption):FSs X (.Assign [.Name x pos'] (.List es lp) pos :: sts) (qL i g f):=⟨fun f' s σ H D I ⟨ρ,E,o⟩=>by
 refine gF (lC (i:=i) hN hi hx (tq hg.h) hs hf) hr.h f' s σ H D I ⟨ρ,E,?_⟩;unfold qL at o
 match hgr:g ρ with
 | none=>rw [hgr] at o; exact o.elim
 | some (.exc _)=>rw [hgr] at o; exact o
 | some (.ok ds) =>
  rw [hgr] at o;intro vs H1 e1 rs;have o2:OutS X H (if ds.length≤100000 then (match f (ρ.set i none) ds with
   | some (.nx ρ' ds')=>some (.nx (ρ'.set i (some (.lst ds'))))
   | some (.rt d)=>some (.rt d)
   | none=>none) else none) D:=o
  by_cases hl:ds.length≤100000
  · rw [if_pos hl] at o2;refine ⟨by rw [rs.length]; exact br hl,fun p hp=>?_⟩;have hil:i < σ.length:=by rw [I.len]; exact (E_.mp hi).1
    refine ⟨H1,p,vs,ρ.set i none,ds,rfl,hp,E7 hil,?_,rs,?_⟩
    · have E1:=(E.mono e1).fgt1 i;refine ⟨by rw [Fu]; exact E1.len,fun j d hj=>?_⟩;by_cases hij:i=j
      · subst hij;by_cases hl2:i < ρ.length
        · rw [E7 hl2] at hj; cases hj
        · rw [FY (by rw [Fu]; omega)] at hj; cases hj
      · obtain ⟨v,q1,q2⟩:=E1.at' j d hj;exact ⟨v,by rw [EU hij]; exact q1,q2⟩
    · match hfr:f (ρ.set i none) ds with
      | none=>rw [hfr] at o2; exact o2.elim
      | some (.rt d)=>rw [hfr] at o2; exact fun v H' e' r'=>o2 v H' (e1.trans e') r'
      | some (.nx ρ' ds') =>
       rw [hfr] at o2;exact fun σ' H' xs' e' ha' hi' E' r'=>o2 σ' _ ((e1.trans e').trans (cq ha')) (dY ha' hi' E' r')
  · rw [if_neg hl] at o2;exact o2.elim⟩
end
def dc (j:Nat) (js:List Nat) (body:dD):List Dv→Ev→List Dv→Option Fo
 | [],ρ,xs=>some (.nx (fgt js ρ) xs)
 | d :: ds,ρ,xs=>match body ((fgt js ρ).set j (some d)) xs with
  | some (.nx ρ' xs')=>dc j js body ds ρ' xs'
  | o=>o
def i5 (j:Nat) (js:List Nat) (src:FnA) (body:dD):dD:=fun ρ xs=>lV (src ρ) fun ds=>if imms ds=b_ then dc j js body ds ρ xs else none
theorem lW:∀ {ds:List Dv} {n:Nat} {d:Dv},imms ds=b_→ds[n]?=some d→imm d=b_
 | [],_,_,_,h=>by simp at h
 | e :: ds,0,d,i,h=>by
  have i':imm e=b_∧imms ds=b_:=by simpa [imms] using i
  cases (show some e=some d from h);exact i'.1
 | e :: ds,n + 1,d,i,h=>by
  have i':imm e=b_∧imms ds=b_:=by simpa [imms] using i
  exact lW i'.2 (show ds[n]?=some d from h)
theorem rS {K:ck} {H:Hp} {a:k_} {xs:List V} {d:Dv} {v:V} (i:imm d=b_) (r:Rep K (upd H a (.lst xs)) d v):Rep K H d v :=
 Rep.tups (fun b ys q=>by
  by_cases hb:b=a
  · rw [hb,ar] at q; cases q
  · rw [ay hb] at q; exact q) d v i r
theorem zn {X:Cx} {i:Nat} {tg iter:D_} {body:List F_} {pos:Pos} {src:FnA} {fb:dD} (hex:X.ex=[]) (j:Nat) (js:List Nat) (hij:i≠j) (hp:IV (A_ X.prog X.w) X.A X.env X.xe) (hc:X.calm=b_) (hi:FI X tg iter src) (hg:PG X tg (nQ j)) (hb:FOs X i body fb)
 (hs:∀ x,Ft iter X.env x=pure x:=by intro _; kernel_rfl):FO1 X i (.For tg iter body [] pos) (i5 j js src fb):=⟨fun f' s σ Hf D I ⟨H,a,xs,ρ,ds,e1,ha,hia,E,r,o⟩=>by
 refine nW hp hc (o8 hex hi.h) hg hb.h hs f' s σ Hf D I ⟨H,a,xs,e1,ha,ρ,E,?_⟩;unfold i5 at o
 match hf:src ρ with
 | none=>rw [hf] at o; exact o.elim
 | some (.exc _)=>rw [hf] at o; exact o.elim
 | some (.ok us) =>
  rw [hf] at o;have o0:OutW X i a H (if imms us=b_ then dc j js fb us ρ ds else none) D:=o;by_cases him:imms us=b_
  · rw [if_pos him] at o0;intro J H1 e1 wk ha1;have o1:=OutW.mono e1 o0;refine ⟨fun n m σ' Hf'=>m=us.length - n∧n≤us.length∧∃ H' xs' ρ' ds',Hf'=upd H' a (.lst xs')∧H' a=none∧Same H1 H'∧σ'[i]?=some (some (.ref a))∧Envs X.K H' σ' ρ'∧Reps X.K H' ds' xs'∧OutW X i a H' (dc j js fb (us.drop n) ρ' ds') D,
     ⟨us.length,by simp,F7 _,H1,xs,ρ,ds,rfl,ha1,.refl H1,hia,E.mono e1,Reps.mono e1 _ _ r,by simpa using o1⟩,?_⟩
    rintro n m σ' Hf' ⟨rfl,hn,H',xs',ρ',ds',rfl,ha',e2,hia',E',r',o'⟩;have e2f:Same H1 (upd H' a (.lst xs')):=e2.trans (cq ha');by_cases hlt:n < us.length
    · refine .inr ⟨wk.go n _ e2f hlt,fun σ2 Hf2=>∃ H2 xs2 ρ2 ds2,Hf2=upd H2 a (.lst xs2)∧H2 a=none∧Same H1 H2∧σ2[i]?=some (some (.ref a))∧Envs X.K H2 σ2 ρ2∧Reps X.K H2 ds2 xs2∧OutW X i a H2 (dc j js fb (us.drop (n + 1)) ρ2 ds2) D,
       fun σ2 Hf2 q=>⟨us.length - (n + 1),by omega,rfl,hlt,q⟩,fun x H2 y=>?_⟩
      obtain ⟨rfl,d,hd,rd⟩:=wk.yld n _ x H2 e2f hlt y;have rd':=rS (lW him hd) rd;rw [fF hd] at o';show tO X i fb _ _ _;refine ⟨H',a,xs',(fgt js ρ').set j (some d),ds',rfl,ha',by rw [EU (HC hij)]; exact hia',(Envs.fgt js E').set rd',r',?_⟩;unfold dc at o'
      match hb':fb ((fgt js ρ').set j (some d)) ds' with
      | none=>rw [hb'] at o'; exact o'
      | some (.rt r)=>rw [hb'] at o'; exact o'
      | some (.nx ρ2 ds2)=>rw [hb'] at o'; exact fun σ2 H3 xs3 e3 h3 hi3 E3 r3=>⟨H3,xs3,ρ2,ds2,rfl,h3,e2.trans e3,hi3,E3,r3,OutW.mono e3 o'⟩
    · have hn':n=us.length:=by omega
      subst hn';rw [Iv] at o';exact .inl ⟨wk.stop _ e2f,o' σ' H' xs' (.refl H') ha' hia' (Envs.fgt js E') r'⟩
  · rw [if_neg him] at o0;exact o0.elim⟩
end FD
namespace FD
open PySem PySem.Spec PyProof.Rows L2 PySem.W
def iq:Dv→Bool
 | .bl _=>b_
 | .int _=>b_
 | _=>c_
theorem vr (K:ck) (d:Dv):GV K (.type (tyD d)) (.type "int")=some (iq d):=by cases d <;> kernel_rfl
theorem zo:F9 (a_ "int")=some (.type "int"):=by kernel_rfl
def nz:List Dv→Option (Rs Dv)
 | [.int i]=>if i.natAbs.log2 < 1920 then some (.ok (.str (toString i))) else none
 | _=>none
section
variable {X:Cx} {p pos:Pos} {e:D_} {es:List D_} {ga:FnA}
theorem vt (hg:Gl X "str") (hm:X.mg "str"=none) (ha:FA X (e :: es) ga) (he:j_ (e :: es) X.env=(c_,eval e X.env) :: j_ es X.env:=by kernel_rfl) (hpl:(FV pos (j_ es X.env)).any (·.1)=c_:=by kernel_rfl):FE X (.Call (.Name "str" p) (e :: es) [] pos) (fB1 nz ga) :=
 bR (fz jB hg hm (by decide +kernel) ha.h (by decide) (by decide) he hpl) fun σ H Q ρ E o=>⟨ρ,E,OutA.bind o fun ds vs H1 e1 rs o1=>by
  unfold nz at o1;split at o1
  · rename_i i;split at o1
    · rename_i hz;obtain ⟨v,rfl,r⟩:=eJ rs;cases (show v=.int i from r);exact ⟨i,rfl,hz,o1 _ H1 (.refl H1) rfl⟩
    · exact o1.elim
  · exact o1.elim⟩
end
def leX:Dv→Dv→Option (Rs Dv)
 | .int i,.int j=>some (.ok (.bl (h_ (i≤j))))
 | .str x,.str y=>some (.ok (.bl (!h_ (y.cps.toList < x.cps.toList))))
 | _,_=>none
def DQ:R2:=fun x y H Q=>rI0 (fun i j=>.bl (h_ (i≤j))) x y H Q∨∃ i j,x=.str i∧y=.str j∧Q (.bl (!h_ (j.cps.toList < i.cps.toList))) H
section
variable {X:Cx}
theorem pb:OpR X (Fp .LtE) (fun x y H Q=>∃ i j,x=.str i∧y=.str j∧Q (.bl (!h_ (j.cps.toList < i.cps.toList))) H):=by
 intro f' s σ H x y v u Q I rx ry h;obtain ⟨i,j,rfl,rfl,q⟩:=h;obtain ⟨t,rfl⟩:=rx;obtain ⟨t',rfl⟩:=ry;exact PySem.P.le_str ⟨.bl _,H,I,rfl,q⟩
theorem Cz:OpR X (Fp .LtE) DQ:=op_le.or pb
theorem CB:GOp X DQ leX:=by
 intro dx dy x y H Q rx ry o;cases dx <;> cases dy <;> try exact (show False from o).elim
 · rename_i i j;exact .inl ⟨i,j,rx,ry,o _ H (.refl H) rfl⟩
 · rename_i i j;exact .inr ⟨i,j,rx,ry,o _ H (.refl H) rfl⟩
end
def CF (K:ck) (S:List Nat) (Cs:List k_) (CJ:k_):Bool:=excIn K CJ bmV "ValueError.__new__" && S.all fun c=>excIn K (Cs.getD c 0) bmV "ValueError.__new__" && xiB K (Cs.getD c 0) && mroIn K (Cs.getD c 0) (.ref CJ) == some b_ && mroIn K (Cs.getD c 0) (.ref (Cs.getD c 0)) == some b_ &&
 kitOne K (.ref (Cs.getD c 0)) (.type "ValueError") == some b_ && S.all fun d=>kitOne K (.ref (Cs.getD c 0)) (.ref (Cs.getD d 0)) == some (c == d)
structure XAllS (K:ck) (S:List Nat) (cls:Nat→k_) (CJ:k_):Prop where
 at_:∀ c∈S,nsIn K x_ (xnm c)=some (some (.ref (cls c)))∧excIn K (cls c) bmV "ValueError.__new__"=b_∧XI K (cls c)∧mroIn K (cls c) (.ref CJ)=some b_∧mroIn K (cls c) (.ref (cls c))=some b_∧kitOne K (.ref (cls c)) (.type "ValueError")=some b_∧∀ d∈S,kitOne K (.ref (cls c)) (.ref (cls d))=some (c == d)
 exJ:excIn K CJ bmV "ValueError.__new__"=b_
theorem rT {K:ck} {S:List Nat} {Cs:List k_} {CJ:k_} (hn:∀ c∈S,nsIn K x_ (xnm c)=some (some (.ref (Cs.getD c 0)))) (h:CF K S Cs CJ=b_):XAllS K S (fun c=>Cs.getD c 0) CJ:=by
 unfold CF at h;rw [i_] at h;refine ⟨fun c hc=>?_,h.1⟩;have h1:=r_.mp h.2 c hc;simp only [i_,beq_iff_eq] at h1;exact ⟨hn c hc,h1.1.1.1.1.1,Cp h1.1.1.1.1.2,h1.1.1.1.2,h1.1.1.2,h1.1.2,fun d hd=>by
  have h2:=r_.mp h1.2 d hd;simpa using h2⟩
section
variable {K:ck} {S:List Nat} {cls:Nat→k_} {CJ:k_} (x:XAllS K S cls CJ)
include x
theorem XAllS.xc (c:Nat) (h:c∈S):XC K c (cls c):=⟨(x.at_ c h).1,(x.at_ c h).2.1⟩
theorem XAllS.same {c:Nat} {C:k_} (h:c∈S) (q:nsIn K x_ (xnm c)=some (some (.ref C))):C=cls c:=by
 have z:=(x.at_ c h).1;rw [q] at z;cases z;rfl
theorem XAllS.xtO (d:Nat) (hd:d∈S):XT K (fun c=>if S.contains c then some (c == d) else none) (.ref (cls d)):=fun c b hb C q=>by
 dsimp only at hb;split at hb
 · rename_i h;have h':c∈S:=by simpa using h
   cases hb;rw [x.same h' q];exact ⟨(x.at_ c h').2.2.1,(x.at_ c h').2.2.2.2.2.2 d hd⟩
 · cases hb
theorem XAllS.xtV:XT K (fun c=>if S.contains c then some b_ else none) (.type "ValueError"):=fun c b hb C q=>by
 dsimp only at hb;split at hb
 · rename_i h;have h':c∈S:=by simpa using h
   cases hb;rw [x.same h' q];exact ⟨(x.at_ c h').2.2.1,(x.at_ c h').2.2.2.2.2.1⟩
 · cases hb
end
section
variable {X:Cx} {ex hx:D_} {f g:FnE} {J:Str} {CJ:k_} {np rp rp2 hpos pos:Pos}
end
end FD
namespace ST
open PySem PySem.SetTable
def stp (m i:Nat):Nat:=(i * 5 + 1) % (m + 1)
def it (m:Nat):Nat→Nat→Nat
 | 0,i=>i
 | k + 1,i=>it m k (stp m i)
def mU (m:Nat):Bool:=(l_ (m + 1)).all fun i=>(l_ (m + 1)).all fun j=>(l_ (m + 1)).any fun k=>it m k i == j
theorem Er:mU 7=b_:=by decide +kernel
theorem CG:mU 31=b_:=by decide +kernel
theorem zp {m:Nat} (h:mU m=b_) {i j:Nat} (hi:i≤m) (hj:j≤m):∃ k,k≤m∧it m k i=j:=by
 unfold mU at h;have h1:=r_.mp h i (Fd.mpr (by omega));have h2:=r_.mp h1 j (Fd.mpr (by omega));obtain ⟨k,hk,e⟩:=Md.mp h2;exact ⟨k,by have:=Fd.mp hk; omega,by simpa using e⟩
def lp (m:Nat):Nat→Nat×Nat→Nat×Nat
 | 0,x=>x
 | r + 1,x=>lp m r (leap m x.1 x.2)
theorem pc (m:Nat):∀ (a b:Nat) (x:Nat×Nat),lp m (a + b) x=lp m b (lp m a x)
 | 0,b,x=>by rw [Ht]; rfl
 | a + 1,b,x=>by
  rw [LK];show lp m (a + b) (leap m x.1 x.2)=lp m b (lp m a (leap m x.1 x.2));exact pc m a b _
theorem vv (m:Nat):∀ (r:Nat) (x:Nat×Nat),x.1≤m→(lp m r x).1≤m
 | 0,x,h=>h
 | r + 1,x,h=>vv m r _ (by
  show (x.1 * 5 + 1 + x.2 / 32) % (m + 1)≤m;exact Gm (HH _ (G9 m)))
theorem zq (m:Nat):∀ (r:Nat) (x:Nat×Nat),(lp m r x).2=x.2 / 32 ^ r
 | 0,x=>by simp [lp]
 | r + 1,x=>by
  show (lp m r (leap m x.1 x.2)).2=_;rw [zq m r];show x.2 / 32 / 32 ^ r=_;rw [Nat.div_div_eq_div_mul,Nat.pow_succ,LM]
theorem pd (m:Nat):∀ (r:Nat) (i:Nat),(lp m r (i,0)).1=it m r i
 | 0,i=>rfl
 | r + 1,i=>by
  show (lp m r (leap m i 0)).1=it m r (stp m i);have e:leap m i 0=(stp m i,0):=by unfold leap stp; simp
  rw [e];exact pd m r _
theorem pe {m:Nat} (c:mU m=b_) {i pt j:Nat} (hi:i≤m) (hp:pt < 2 ^ 64) (hj:j≤m):∃ r,r≤13 + m∧(lp m r (i,pt)).1=j:=by
 have h0:(lp m 13 (i,pt)).2=0:=by
  rw [zq];exact Nat.div_eq_of_lt (by
   show pt < 32 ^ 13; have:(32:Nat) ^ 13=2 ^ 65:=by decide
   omega)
 obtain ⟨k,hk,e⟩:=zp c (vv m 13 (i,pt) hi) hj;refine ⟨13 + k,by omega,?_⟩;rw [pc];have e2:lp m 13 (i,pt)=((lp m 13 (i,pt)).1,0):=by rw [← h0]
 rw [e2,pd];exact e
def advN (t:SetTable):Nat→Probe→Probe
 | 0,p=>p
 | n + 1,p=>advN t n (t.advance p)
theorem ci (t:SetTable):∀ (a b:Nat) (p:Probe),advN t (a + b) p=advN t b (advN t a p)
 | 0,b,p=>by rw [Ht]; rfl
 | a + 1,b,p=>by
  rw [LK];exact ci t a b _
structure Vp (t:SetTable) (p:Probe):Prop where
 i:p.i≤t.mask
 pt:p.perturb < 2 ^ 64
 more:p.more≤9
 dm:p.dummy=none
theorem g7 (m i:Nat):Iq m i - i≤9:=by unfold Iq; split <;> omega
def iH (t:SetTable) (p:Probe):Probe:={ p with j:=(leap t.mask p.i p.perturb).1,more:=Iq t.mask (leap t.mask p.i p.perturb).1 - (leap t.mask p.i p.perturb).1,i:=(leap t.mask p.i p.perturb).1,perturb:=(leap t.mask p.i p.perturb).2 }
theorem i7 (t:SetTable) (p:Probe) (h:p.more=0):t.advance p=iH t p:=by
 unfold L6 iH;rw [if_neg (by omega)]
theorem i8 (t:SetTable) (p:Probe) (h:0 < p.more):t.advance p={ p with j:=p.j + 1,more:=p.more - 1 }:=by
 unfold L6;rw [if_pos h]
theorem g8 (t:SetTable):∀ (k:Nat) (p:Probe),p.more=k→advN t (k + 1) p=iH t p
 | 0,p,h=>i7 t p h
 | k + 1,p,h=>by
  show advN t (k + 1) (t.advance p)=_;rw [i8 t p (by omega),g8 t k _ (by show p.more - 1=k; omega)];rfl
theorem pf (m i pt:Nat) (h:pt < 2 ^ 64):(leap m i pt).2 < 2 ^ 64:=Lj (Nat.div_le_self _ _) h
theorem Vp.leap {t:SetTable} {p:Probe} (v:Vp t p):Vp t (iH t p):=⟨by
 show (p.i * 5 + 1 + p.perturb / 32) % (t.mask + 1)≤t.mask;exact Gm (HH _ (G9 t.mask)),(show (Hh t.mask p.i p.perturb).2 < 2 ^ 64 from pf _ _ _ v.pt),(show Iq t.mask (Hh t.mask p.i p.perturb).1 - (Hh t.mask p.i p.perturb).1≤9 from g7 _ _),v.dm⟩
theorem Vp.adv {t:SetTable} {p:Probe} (v:Vp t p):Vp t (t.advance p):=by
 by_cases h:0 < p.more
 · rw [i8 t p h]; exact ⟨v.i,v.pt,by show p.more - 1≤9; have:=v.more; omega,v.dm⟩
 · rw [i7 t p (by omega)]; exact v.leap
theorem Vp.advN {t:SetTable}:∀ (n:Nat) {p:Probe},Vp t p→Vp t (advN t n p)
 | 0,p,v=>v
 | n + 1,p,v=>Vp.advN n v.adv
theorem lX (t:SetTable):∀ (r:Nat) (p:Probe),Vp t p→∃ n,n≤10 * r∧(advN t n p).i=(lp t.mask r (p.i,p.perturb)).1∧(r≠0→(advN t n p).j=(advN t n p).i)
 | 0,p,v=>⟨0,by omega,rfl,fun h=>absurd rfl h⟩
 | r + 1,p,v=>by
  obtain ⟨n,h1,h2,h3⟩:=lX t r (iH t p) v.leap;refine ⟨p.more + 1 + n,by have:=v.more; omega,?_,fun _=>?_⟩
  · rw [ci,g8 t p.more p rfl,h2]; rfl
  · rw [ci,g8 t p.more p rfl];by_cases hr:r=0
    · subst hr;have hn:n=0:=by omega
      subst hn;rfl
    · exact h3 hr
structure Tb (t:SetTable) (n:Nat):Prop where
 size:t.place.size=n
 dm:t.dummies=#[]
 cyc:mU t.mask=b_
 room:n≤t.mask
theorem ph (j:Nat):has #[] j=c_:=by unfold has; simp
theorem eD {t:SetTable} {n:Nat} (T:Tb t n) (j:Nat):t.slot j=.empty∨∃ i,t.slot j=.live i∧t.place[i]?=some j:=by
 unfold ML;dsimp only;split
 · rename_i h;exact .inr ⟨_,rfl,by simpa using h⟩
 · rw [T.dm,ph];exact .inl rfl
theorem pj:∀ (m:Nat) (l:List Nat),l.length≤m→∃ j,j≤m∧j ∉ l
 | 0,l,h=>⟨0,p_ _,by
  have:l=[]:=G0.mp (by omega);simp [this]⟩
 | m + 1,l,h=>by
  by_cases hm:(m + 1)∈l
  · obtain ⟨j,hj,hn⟩:=pj m (l.erase (m + 1)) (by rw [List.length_erase_of_mem hm]; omega);refine ⟨j,by omega,fun hl=>hn ?_⟩;exact (List.mem_erase_of_ne (by omega)).mpr hl
  · exact ⟨m + 1,p_ _,hm⟩
theorem rV {t:SetTable} {n:Nat} (T:Tb t n):∃ j,j≤t.mask∧t.slot j=.empty:=by
 obtain ⟨j,hj,hn⟩:=pj t.mask t.place.toList (by simp [T.size,T.room]);refine ⟨j,hj,?_⟩;rcases eD T j with h | ⟨i,h,e⟩
 · exact h
 · exact absurd (FB.mpr (Io e)) hn
theorem CH {t:SetTable} {n:Nat} (T:Tb t n) {p:Probe} (v:Vp t p):∃ N,N < 10 * IA t.mask∧t.slot (advN t N p).j=.empty:=by
 obtain ⟨j,hj,he⟩:=rV T;obtain ⟨r,hr,e⟩:=pe T.cyc (vv t.mask 1 (p.i,p.perturb) v.i) (by
  show (leap t.mask p.i p.perturb).2 < 2 ^ 64;exact pf _ _ _ v.pt) hj (pt:=(lp t.mask 1 (p.i,p.perturb)).2)
 obtain ⟨N,h1,h2,h3⟩:=lX t (1 + r) p v;refine ⟨N,by unfold IA; omega,?_⟩;rw [h3 (by omega),h2,pc];rw [show lp t.mask 1 (p.i,p.perturb)=((lp t.mask 1 (p.i,p.perturb)).1,(lp t.mask 1 (p.i,p.perturb)).2) from rfl,e];exact he
theorem first {P:Nat→Prop} [DecidablePred P]:∀ (b:Nat),(∃ n,n < b∧P n)→∃ n,n < b∧P n∧∀ k,k < n→¬ P k
 | 0,⟨n,h,_⟩=>absurd h (GC _)
 | b + 1,⟨n,h,hp⟩=>by
  by_cases q:∃ n,n < b∧P n
  · obtain ⟨n,h1,h2,h3⟩:=first b q
    exact ⟨n,by omega,h2,h3⟩
  · have hn:n=b:=by
     have:¬ n < b:=fun z=>q ⟨n,z,hp⟩;omega
    subst hn;exact ⟨n,by omega,hp,fun k hk z=>q ⟨k,hk,z⟩⟩
theorem zr {t:SetTable} {n:Nat} (T:Tb t n) {p:Probe} (v:Vp t p):∃ N,N < 10 * IA t.mask∧t.slot (advN t N p).j=.empty∧∀ k,k < N→t.slot (advN t k p).j≠.empty :=
 first (P:=fun n=>t.slot (advN t n p).j=.empty) _ (CH T v)
theorem tY {t:SetTable} {n:Nat} (T:Tb t n) (hashAt:Nat→Int) (h:Int):∀ (N fuel:Nat) (p:Probe),Vp t p→N < fuel→t.slot (advN t N p).j=.empty→(∀ k,k < N→t.slot (advN t k p).j≠.empty) →
 Hm t hashAt h fuel p=some (.empty (advN t N p).j none)∨∃ m i,m < N∧t.slot (advN t m p).j=.live i∧t.place[i]?=some (advN t m p).j∧hashAt i=h∧Hm t hashAt h fuel p=some (.candidate (advN t m p).j i (advN t (m + 1) p))
 | N,0,p,v,hf,_,_=>absurd hf (GC _)
 | 0,fuel + 1,p,v,hf,he,_=>by
  refine .inl ?_;unfold Hm;rw [show t.slot p.j=.empty from he];show some (Met.empty p.j p.dummy)=_;rw [v.dm];rfl
 | N + 1,fuel + 1,p,v,hf,he,hn=>by
  rcases eD T p.j with h0 | ⟨i,h1,h2⟩
  · exact absurd h0 (hn 0 (by omega))
  · by_cases hh:hashAt i=h
    · refine .inr ⟨0,i,by omega,h1,h2,hh,?_⟩;unfold Hm;rw [h1];dsimp only;rw [if_pos (by simpa using hh)];rfl
    · have hg:Hm t hashAt h (fuel + 1) p=Hm t hashAt h fuel (t.advance p):=by
       conv=>lhs; unfold Hm
       rw [h1];dsimp only;rw [if_neg (by simpa using hh)]
      rcases tY T hashAt h N fuel (t.advance p) v.adv (by omega) he (fun k hk=>hn (k + 1) (by omega)) with q | ⟨m,i',q1,q2,q3,q4,q5⟩
      · exact .inl (by rw [hg,q]; rfl)
      · exact .inr ⟨m + 1,i',by omega,q2,q3,q4,by rw [hg,q5]; rfl⟩
theorem k6 {t:SetTable} (h:Int):Vp t (t.probeStart h):=⟨by
 show bits h % (t.mask + 1)≤t.mask;exact Gm (HH _ (G9 t.mask)),by
 show bits h < 2 ^ 64;unfold bits;have h1:=GM h (show (2 ^ 64:Int)≠0 by decide);have h2:=Gd h (show (0:Int) < 2 ^ 64 by decide);omega,g7 _ _,rfl⟩
theorem jU {m:Nat} {owner:Array (Option Nat)}:∀ (fuel i pt:Nat),i≤m→(∃ r,r < fuel∧(owner.getD (lp m r (i,pt)).1 (some 0)).isNone=b_)→∃ j,Gg m owner fuel i pt=some j∧(owner.getD j (some 0)).isNone=b_
 | 0,i,pt,_,⟨r,h,_⟩=>absurd h (GC _)
 | fuel + 1,i,pt,hi,⟨r,h,e⟩=>by
  unfold Gg;split
  · rename_i k hk;exact ⟨i + k,rfl,by simpa using Mp hk⟩
  · rename_i hk;cases r with
    | zero =>
     have hm:0∈l_ (Iq m i + 1 - i):=Fd.mpr (by unfold Iq; split <;> omega);have:=Lm.mp hk 0 hm;exact absurd (show (owner.getD (i + 0) (some 0)).isNone=b_ from e) this
    | succ r =>
     exact jU fuel _ _ (by
      show (i * 5 + 1 + pt / 32) % (m + 1)≤m;exact Gm (HH _ (G9 m))) ⟨r,by omega,e⟩
theorem tZ:∀ (l:List (Option Nat)) (j k:Nat),l[j]?=some none→((l.set j (some k)).filterMap id).Perm (k :: l.filterMap id)
 | [],j,k,h=>by simp at h
 | x :: l,0,k,h=>by
  have:x=none:=by simpa using h
  subst this;simp
 | x :: l,j + 1,k,h=>by
  have ih:=tZ l j k (by simpa using h);cases x with
  | none=>simpa using ih
  | some y =>
   show List.Perm (y :: (l.set j (some k)).filterMap id) (k :: y :: l.filterMap id);exact (ih.cons y).trans (List.Perm.swap ..)
theorem pk:∀ (l:List (Option Nat)),(l.filterMap id).length < l.length→∃ j,j < l.length∧l[j]?=some none
 | [],h=>by simp at h
 | none :: l,h=>⟨0,by simp,rfl⟩
 | some y :: l,h=>by
  obtain ⟨j,h1,h2⟩:=pk l (by simpa using h);exact ⟨j + 1,by simpa using h1,by simpa using h2⟩
def jV (m:Nat) (acc:Option (Array (Option Nat)×Nat)) (h:Int):Option (Array (Option Nat)×Nat):=do
 let (owner,k) ← acc
 let j ← Gg m owner (IA m) (bits h % (m + 1)) (bits h)
 pure (owner.setIfInBounds j (some k),k + 1)
theorem vx (h:Int):bits h < 2 ^ 64:=by
 unfold bits;have h1:=GM h (show (2 ^ 64:Int)≠0 by decide);have h2:=Gd h (show (0:Int) < 2 ^ 64 by decide);omega
theorem getD_none {owner:Array (Option Nat)} {j:Nat} (h:(owner.getD j (some 0)).isNone=b_):j < owner.size∧owner.toList[j]?=some none:=by
 rw [FK] at h;cases q:owner[j]? with
 | none=>rw [q] at h; simp at h
 | some x =>
  rw [q] at h;have hx:x=none:=by simpa using h
  subst hx;refine ⟨(F0.mp q).1,by rw [FZ]; exact q⟩
theorem pp {m:Nat} (c:mU m=b_):∀ (hs:List Int) (owner:Array (Option Nat)) (k:Nat),owner.size=m + 1→(owner.toList.filterMap id).Perm (l_ k)→k + hs.length≤m →
 ∃ o2,hs.foldl (jV m) (some (owner,k))=some (o2,k + hs.length)∧o2.size=m + 1∧(o2.toList.filterMap id).Perm (l_ (k + hs.length))
 | [],owner,k,h1,h2,h3=>⟨owner,rfl,h1,h2⟩
 | h :: hs,owner,k,h1,h2,h3=>by
  have hk:k + (hs.length + 1)≤m:=by simpa using h3
  obtain ⟨j0,a1,a2⟩:=pk owner.toList (by rw [h2.length_eq,Hl]; simp only [ES,h1]; omega);have hj0:j0≤m:=by simp only [ES,h1] at a1; omega
  obtain ⟨r,b1,b2⟩:=pe c (i:=bits h % (m + 1)) (pt:=bits h) (Gm (HH _ (G9 m))) (vx h) hj0;obtain ⟨j,f1,f2⟩:=jU (m:=m) (owner:=owner) (IA m) (bits h % (m + 1)) (bits h) (Gm (HH _ (G9 m))) ⟨r,by unfold IA; omega,by
   rw [b2,FK];rw [FZ] at a2;rw [a2]; rfl⟩
  obtain ⟨g1,g2⟩:=getD_none f2;have e:jV m (some (owner,k)) h=some (owner.setIfInBounds j (some k),k + 1):=by
   show (Gg m owner (IA m) (bits h % (m + 1)) (bits h)).bind (fun j=>some (owner.setIfInBounds j (some k),k + 1))=_;rw [f1]; rfl
  rw [Ga,e];obtain ⟨o2,c1,c2,c3⟩:=pp c hs (owner.setIfInBounds j (some k)) (k + 1) (by rw [JE]; exact h1) (by
   rw [Array.toList_setIfInBounds];refine (tZ _ _ _ g2).trans ((h2.cons k).trans ?_);rw [Mn];exact (List.perm_append_singleton k (l_ k)).symm) (by omega)
  refine ⟨o2,?_,c2,?_⟩
  · rw [c1]; simp only [EV]; congr 2; omega
  · simp only [EV]; rw [show k + (hs.length + 1)=k + 1 + hs.length by omega]; exact c3
theorem hU {m:Nat} (c:mU m=b_) (hs:Array Int) (hl:hs.size≤m):∃ o2,MC m hs=some o2∧o2.size=m + 1∧(o2.toList.filterMap id).Perm (l_ hs.size):=by
 obtain ⟨o2,c1,c2,c3⟩:=pp c hs.toList (GN (m + 1) none) 0 (by simp) (by simp [List.filterMap_replicate]) (by simpa using hl);refine ⟨o2,?_,c2,by simpa using c3⟩;unfold MC;rw [← Lq];have e:(MG (fun acc h=>do
  let (owner,k) ← acc
  let j ← Gg m owner (IA m) (bits h % (m + 1)) (bits h)
  pure (owner.setIfInBounds j (some k),k + 1)) (some (GN (m + 1) none,0)) hs.toList:Option (Array (Option Nat)×Nat))=hs.toList.foldl (jV m) (some (GN (m + 1) none,0)):=rfl
 rw [e,c1];rfl
theorem lY:∀ (l:List (Option Nat)) (base:Nat),((l_ l.length).filterMap fun j=>(l.getD j none).map (fun x=>(base + j,x))).map (·.2)=l.filterMap id
 | [],base=>rfl
 | x :: l,base=>by
  rw [EV,G_,Gp,GH];have ih:=lY l (base + 1);have e:(l_ l.length).filterMap ((fun j=>((x :: l).getD j none).map (fun x=>(base + j,x))) ∘ Nat.succ)=(l_ l.length).filterMap fun j=>(l.getD j none).map (fun x=>(base + 1 + j,x)):=by
   congr 1;funext j;show ((x :: l).getD (j + 1) none).map _=_;simp only [List.getD_cons_succ];rw [show base + (j + 1)=base + 1 + j by omega]
  rw [e];cases x with
  | none=>simpa using ih
  | some y =>
   simp only [List.getD_cons_zero,HB,Fe];rw [ih];rfl
theorem vy {m finger moves:Nat} {led plain:Bool} (c:mU m=b_) (hs:Array Int) (hl:hs.size≤m):∃ t order,laid m finger moves led plain hs=some (t,order)∧t.mask=m∧t.moves=moves∧t.led=led∧t.plain=plain∧Tb t hs.size∧order.toList.Perm (l_ hs.size):=by
 obtain ⟨o2,c1,c2,c3⟩:=hU c hs hl;have e:=lY o2.toList 0;have hlen:((l_ (m + 1)).filterMap fun j=>(o2.getD j none).map (j,·))=((l_ o2.toList.length).filterMap fun j=>(o2.toList.getD j none).map (fun x=>(0 + j,x))):=by
  rw [ES,c2];congr 1;funext j;rw [Ht,FK,List.getD_eq_getElem?_getD,FZ]
 refine ⟨_,_,by unfold laid; rw [c1]; rfl,rfl,rfl,rfl,rfl,⟨?_,rfl,c,hl⟩,?_⟩
 · simp only [v_,s_];rw [hlen];have:=congrArg HQ e;rw [s_] at this;rw [this,c3.length_eq,Hl]
 · rw [IJ,hlen,e];exact c3
theorem fJ {α:Type} (xs:Array α) (p:Nat) (x:α) (h:p≤xs.size):(insertAt xs p x).size=xs.size + 1:=by
 unfold insertAt;simp only [Jx,Array.size_push,Array.size_extract];omega
theorem ja (xs:Array Nat) (j:Nat):below xs j≤xs.size:=by
 unfold below;have:∀ (fuel lo hi:Nat),lo≤hi→hi≤xs.size→JJ xs j fuel lo hi≤xs.size:=by
  intro fuel
  induction fuel with
  | zero=>intro lo hi h1 h2; unfold JJ; omega
  | succ fuel ih =>
   intro lo hi h1 h2;unfold JJ;split
   · rename_i hlt;dsimp only;split
     · exact ih _ _ (by omega) h2
     · exact ih _ _ (by omega) (by omega)
   · omega
 exact this _ _ _ (F7 _) (p_ _)
theorem zt {t:SetTable} {n:Nat} (T:Tb t n) (h:n + 1≤t.mask) (j:Nat):Tb (t.put j).1 (n + 1)∧(t.put j).2≤n∧(t.put j).1.mask=t.mask∧(t.put j).1.led=t.led∧(t.put j).1.moves=t.moves:=by
 unfold SetTable.put;refine ⟨⟨?_,?_,T.cyc,h⟩,?_,rfl,rfl,rfl⟩
 · show (insertAt t.place (below t.place j) j).size=n + 1;rw [fJ _ _ _ (ja _ _),T.size]
 · show (if has t.dummies j then eraseAt t.dummies (below t.dummies j) else t.dummies)=#[];rw [T.dm,ph];rfl
 · show below t.place j≤n;rw [← T.size];exact ja _ _
section
variable {prog:pi} {w:EO} {A:EQ} {E:d_→e_→Prop} {s:e_}
abbrev TK (prog:pi) (w:EO) (h:Fg) (k:List Str) (a:k_):Prop:=IsTupleKey (strKind prog w) h k a
abbrev hsh (prog:pi) (w:EO) (k:List Str):Int:=tupleKeyHash (strKind prog w) k
theorem hX {k:List Str} {vs:List d_} (h:ItemsAre (strKind prog w) k vs):∀ v∈vs,∃ x t,v=.str x t:=by
 induction h with
 | nil=>intro v hv; simp at hv
 | @cons k' v' ks vs h1 _ ih =>
  intro v hv;rcases q_.mp hv with rfl | hv
  · obtain ⟨t,rfl⟩:=KQ h1;exact ⟨_,_,rfl⟩
  · exact ih v hv
theorem pq {k:List Str} {a:k_} {Q:Bool→e_→Prop} (hk:TK prog w s.heap k a) (h:Q c_ s):C_ (A_ prog w) A (ofAClassStatement 8 (.ref a)) Q E s:=by
 have hT:=hk.typeIs;obtain ⟨o,items,n,ho,_,hd,hi⟩:=hk;unfold ofAClassStatement;refine ge (JR hT ?_);show C_ _ _ ((if ("tuple" == "tuple")=b_ then pure b_ else isSubtype (.type "tuple") (.type "tuple")) >>= _) _ _ s;rw [if_pos (by decide)];refine ge (m_ ?_);simp only [Gw,EZ,if_false];refine ge (wpAny_seqItems ho hd ?_);refine ge ?_;show C_ _ _ (forIn items _ _) _ _ s;rw [← Lp];refine JF _ (fun rest r s'=>r.1=none∧s'=s∧∀ v∈rest,∃ x t,v=Hr x t) _ ?_ ?_ _ _ ⟨rfl,rfl,hX hi⟩
 · rintro v rest r s' ⟨hr,rfl,hall⟩;obtain ⟨x,t,rfl⟩:=hall v g_;refine ge (m_ ?_);simp only [EZ,if_false];exact m_ ⟨rfl,rfl,fun u hu'=>hall u (f_ _ hu')⟩
 · rintro ⟨r1,r2⟩ s' ⟨hr,rfl,_⟩;simp only at hr;subst hr;exact m_ h
theorem ua {k:List Str} {b:k_} (hk:TK prog w s.heap k b) {l:List d_} (hl:∀ v∈l,∃ k' a,v=.ref a∧TK prog w s.heap k' a) {Q:Bool→e_→Prop} (h:Q c_ s):C_ (A_ prog w) A (searchCouldBeSeen (.ref b) l) Q E s:=by
 unfold searchCouldBeSeen;refine ge ?_;refine JF _ (fun rest r s'=>r.1=none∧s'=s∧∀ v∈rest,∃ k' a,v=w_ a∧TK prog w s.heap k' a) _ ?_ ?_ _ _ ⟨rfl,rfl,hl⟩
 · rintro v rest r s' ⟨hr,rfl,hall⟩;obtain ⟨k',a,rfl,ha⟩:=hall v g_;have hrest:∀ v∈rest,∃ k' a,v=w_ a∧TK prog w s'.heap k' a:=fun u hu'=>hall u (f_ _ hu');dsimp only;split
   · exact m_ ⟨rfl,rfl,hrest⟩
   · refine ge (Kj hk ?_);simp only [Gw,EZ,if_false];refine ge (Kj ha ?_);simp only [Gw,EZ,if_false];refine ge (pq hk ?_);simp only [EZ,if_false];refine ge (pq ha ?_);simp only [EZ,if_false];exact m_ ⟨rfl,rfl,hrest⟩
 · rintro ⟨r1,r2⟩ s' ⟨hr,rfl,_⟩;simp only at hr;subst hr;exact m_ h
theorem k7 {k:List Str} {a:k_} {Q:Bool→e_→Prop} (hk:TK prog w s.heap k a) (h:∀ b,Q b s):C_ (A_ prog w) A (hashByValue 8 (.ref a)) Q E s:=by
 have hT:=hk.typeIs;obtain ⟨o,items,n,ho,_,hd,hi⟩:=hk;unfold hashByValue;refine ge (wpAny_specialOf hT F.slot_tuple_hash.lookup ?_);dsimp only;refine ge (wpAny_seqItems ho hd ?_);refine ge ?_;show C_ _ _ (forIn items _ _) _ _ s;rw [← Lp];refine JF _ (fun rest r s'=>r.1=none∧s'=s∧∀ v∈rest,∃ x t,v=Hr x t) _ ?_ ?_ _ _ ⟨rfl,rfl,hX hi⟩
 · rintro v rest r s' ⟨hr,rfl,hall⟩;obtain ⟨x,t,rfl⟩:=hall v g_;refine ge (m_ ?_);simp only [Hq,if_true];refine m_ ?_;exact m_ (h _)
 · rintro ⟨r1,r2⟩ s' ⟨hr,rfl,_⟩;simp only at hr;subst hr;exact m_ (h _)
def Ent (prog:pi) (w:EO) (h:Fg) (ks:List (List Str)) (es:List (Int×d_)):Prop:=∀ e∈es,∃ k a,k∈ks∧e.2=.ref a∧TK prog w h k a
theorem fW {t:SetTable} {n:Nat} (T:Tb t n):t.fits n=b_:=by
 unfold SetTable.fits MM;rw [T.size,T.dm];simp [T.room]
end
section
variable {prog:pi} {w:EO} {A:EQ} {E:d_→e_→Prop} {s:e_}
abbrev byT (w:EO):Bool:=w.params.followText "set-order"
def SetT (prog:pi) (w:EO) (h:Fg) (S:k_) (ks:List (List Str)) (vs:List d_) (n:Nat):Prop :=
 ∃ o es ep t,h.get? S=some o∧o.ExactSet∧o.data=.set es ep t∧es.size=n∧Tb t n∧((t.mask=7∧n≤4)∨(t.mask=31∧n≤18))∧Ent prog w h ks es.toList∧(es.toList.map (·.2)).Perm vs∧t.led=(!byT w)∧((∀ k∈ks,k≠[])→n≠0→t.plain=c_)
theorem TK.keeps {h h':Fg} {k:List Str} {a S:k_} {o:Obj} {es ep t} (x:TK prog w h k a) (ho:h.get? S=some o) (hd:o.data=.set es ep t) (hs:IQ S h h'):TK prog w h' k a:=by
 obtain ⟨o',items,n,ho',hc,hd',hi⟩:=x;have hne:a≠S:=by
  rintro rfl;obtain rfl:o'=o:=Fj (ho'.symm.trans ho);rw [hd] at hd'; exact nomatch hd'
 exact ⟨o',items,n,(hs.2 a hne).trans ho',hc,hd',hi⟩
theorem Ent.keeps {h h':Fg} {ks:List (List Str)} {l:List (Int×d_)} {S:k_} {o:Obj} {es ep t} (x:Ent prog w h ks l) (ho:h.get? S=some o) (hd:o.data=.set es ep t) (hs:IQ S h h'):Ent prog w h' ks l:=fun e he=>by
 obtain ⟨k,a,h1,h2,h3⟩:=x e he;exact ⟨k,a,h1,h2,h3.keeps ho hd hs⟩
theorem jW {h:Fg} {S:k_} {o:Obj} {es es':Array (Int×d_)} {ep:Nat} {t t':SetTable} (ho:h.get? S=some o) (hd:o.data=.set es ep t):(h.update S (Jd es' t')).get? S=some { o with data:=.set es' (ep + 1) t' }:=by
 have:=Kl (Jd es' t') ho (by rw [putSet_of es' t' hd]; rfl);rw [putSet_of es' t' hd] at this; exact this
theorem Ent.insert {h:Fg} {ks:List (List Str)} {es:Array (Int×d_)} {k:List Str} {b:k_} {p:Nat} {x:Int} (hE:Ent prog w h ks es.toList) (hb:TK prog w h k b):Ent prog w h (k :: ks) (xy es p (x,.ref b)).toList:=fun e he=>by
 have he':=(JY es p (x,w_ b)).mem_iff.mp he;rw [Jw] at he';rcases t_.mp he' with q | q
 · obtain ⟨k',a,h1,h2,h3⟩:=hE e q;exact ⟨k',a,f_ _ h1,h2,h3⟩
 · rw [Fc] at q;subst q;exact ⟨k,b,g_,rfl,hb⟩
theorem pv {t:SetTable} {n:Nat} (T:Tb t n):t.fill=n:=by unfold MM; rw [T.size,T.dm]; simp
theorem rW {α:Type} (es:Array α):(l_ es.size).filterMap (fun i=>es[i]?)=es.toList:=by
 apply Ig;intro i;have:(l_ es.size).filterMap (fun i=>es[i]?)=(l_ es.size).pmap (fun i h=>es[i]) (fun i h=>Fd.mp h):=by
  rw [List.pmap_eq_map_attach,← List.filterMap_eq_map]
  conv=>lhs; rw [← List.attach_map_subtype_val (l_ es.size)]
  rw [GH];congr 1;funext ⟨i,hi⟩;simp [Fd.mp hi]
 rw [this];simp [List.getElem?_pmap,IL];by_cases hi:i < es.size
 · simp [hi]
 · simp [hi]
end
end ST
namespace ST
open PySem PySem.SetTable PyProof.Rows
section
variable {prog:pi} {w:EO} {A:EQ} {R:Ld→e_→Prop} {I:k_} {fp wr:List k_} {G:Array Je→Array Je→Prop} {n:Nat} {P:Nat→d_→Prop} {St:Nat→e_→Prop}
theorem TK.moved {h h':Fg} {k:List Str} {a:k_} (x:TK prog w h k a) (hm:∀ o,h.get? a=some o→h'.get? a=some o):TK prog w h' k a:=by
 obtain ⟨o',items,n,ho',hc,hd',hi⟩:=x;exact ⟨o',items,n,hm _ ho',hc,hd',hi⟩
theorem SetT.moved {h h':Fg} {S:k_} {ks:List (List Str)} {vs:List d_} {n:Nat} (x:SetT prog w h S ks vs n) (hS:∀ o,h.get? S=some o→h'.get? S=some o) (hm:∀ k∈ks,∀ a,TK prog w h k a→TK prog w h' k a):SetT prog w h' S ks vs n:=by
 obtain ⟨o,es,ep,t,ho,hex,hd,hsz,T,hmk,hE,hr⟩:=x;exact ⟨o,es,ep,t,hS _ ho,hex,hd,hsz,T,hmk,fun e he=>let ⟨k,a,h1,h2,h3⟩:=hE e he; ⟨k,a,h1,h2,hm k h1 a h3⟩,hr⟩
end
section
variable {prog:pi} {w:EO} {A:EQ} {E:d_→e_→Prop} {s:e_}
abbrev mV (led:Bool):Obj:={ cls:=.type "set",dict:=none,data:=.set #[] 0 (.fresh 0 0 led) }
end
end ST
namespace FD
open PySem PySem.Spec PyProof.Rows L2
def iI:List Dv→Option (List Str)
 | []=>some []
 | .str x :: r=>(iI r).map (x :: ·)
 | _=>none
def hZ:List Dv→Option (List (List Str))
 | []=>some []
 | .tup ds :: r=>match iI ds,hZ r with
  | some k,some ks=>some (k :: ks)
  | _,_=>none
 | _=>none
section
variable {X:Cx} {f':List (k_×Obj)} {σ:L2.St} {H:Hp} {s:e_}
theorem iJ {prog:pi} {w:EO}:∀ {ds:List Dv} {k:List Str} {ys:List V} {its:List d_},iI ds=some k→Reps X.K H ds ys→Vals ys its→PySem.ItemsAre (PySem.strKind prog w) k its
 | [],k,ys,its,h,r,v=>by
  cases h;cases (show ys=[] from r);cases v;exact .nil
 | .str x :: ds,k,ys,its,h,r,v=>by
  obtain ⟨y,us,rfl,r1,r2⟩:∃ v us,ys=v :: us∧Rep X.K H (.str x) v∧Reps X.K H ds us:=r;cases (show y=.str x from r1);obtain ⟨k',h1,rfl⟩:=FU.mp (show (iI ds).map (x :: ·)=some k from h);cases v with
  | cons v1 v2 =>
   obtain ⟨t,rfl⟩:=v1;exact .cons (by show K3 x (.str x t)=b_; simp [K3]) (iJ h1 r2 v2)
 | .non :: ds,k,ys,its,h,r,v=>by cases h
 | .bl _ :: ds,k,ys,its,h,r,v=>by cases h
 | .int _ :: ds,k,ys,its,h,r,v=>by cases h
 | .tup _ :: ds,k,ys,its,h,r,v=>by cases h
 | .lst _ :: ds,k,ys,its,h,r,v=>by cases h
 | .scr _ :: ds,k,ys,its,h,r,v=>by cases h
 | .exn _ :: ds,k,ys,its,h,r,v=>by cases h
theorem CI (I:Inv X f' σ H s) {ds:List Dv} {k:List Str} {v:V} {u:d_} (h:iI ds=some k) (r:Rep X.K H (.tup ds) v) (q:RelV v u):∃ a,u=.ref a∧ST.TK X.prog X.w s.heap k a:=by
 obtain ⟨a,xs,rfl,hH,rs⟩:=r.tupE;cases (show u=w_ a from q);obtain ⟨its,rv,⟨o,e,c,n,d⟩,hz⟩:=I.tuple (SqT.of hH);exact ⟨a,rfl,o,its.toArray,_,e,c,d,by simpa using iJ h rs rv⟩
theorem pA (I:Inv X f' σ H s):∀ {ds:List Dv} {ks:List (List Str)} {xs:List V} {its:List d_},hZ ds=some ks→Reps X.K H ds xs→Vals xs its→ks.length=its.length∧∀ i,i < its.length→∃ a,its[i]?=some (.ref a)∧ST.TK X.prog X.w s.heap (ks.getD i []) a
 | [],ks,xs,its,h,r,v=>by
  cases h;cases (show xs=[] from r);cases v;exact ⟨rfl,fun i hi=>absurd hi (GC _)⟩
 | .tup es :: ds,ks,xs,its,h,r,v=>by
  obtain ⟨y,us,rfl,r1,r2⟩:∃ v us,xs=v :: us∧Rep X.K H (.tup es) v∧Reps X.K H ds us:=r;unfold hZ at h;split at h
  · rename_i k ks' h1 h2;cases h;cases v with
    | cons v1 v2 =>
     obtain ⟨a,rfl,ta⟩:=CI I h1 r1 v1;obtain ⟨q1,q2⟩:=pA I h2 r2 v2;refine ⟨by simp [q1],fun i hi=>?_⟩;cases i with
     | zero=>exact ⟨a,rfl,ta⟩
     | succ i =>
      obtain ⟨a',e1,e2⟩:=q2 i (by simpa using hi);exact ⟨a',by simpa using e1,by simpa using e2⟩
  · cases h
 | .non :: ds,ks,xs,its,h,r,v=>by cases h
 | .bl _ :: ds,ks,xs,its,h,r,v=>by cases h
 | .int _ :: ds,ks,xs,its,h,r,v=>by cases h
 | .str _ :: ds,ks,xs,its,h,r,v=>by cases h
 | .lst _ :: ds,ks,xs,its,h,r,v=>by cases h
 | .scr _ :: ds,ks,xs,its,h,r,v=>by cases h
 | .exn _ :: ds,ks,xs,its,h,r,v=>by cases h
end
section
variable {X:Cx} {p p2 pos pos2:Pos} {e:D_} {ga:FnA}
end
section
variable {X:Cx}
end
def frs {α:Type} (P:α→Bool):Sem α→Bool
 | .pure a=>P a
 | .fresh _=>b_
 | .at _ k=>frs P (k ())
 | .rule _ k=>frs P (k ())
 | .point _ k=>frs P (k ())
 | _=>c_
structure FTg (X:Cx) (e:D_) (f:FnB):Prop where
 h:∀ (f':List (k_×Obj)) (s:e_) (σ:L2.St) (H:Hp) (Q:Bool→Hp→Prop),Inv X f' σ H s→tT X f σ H Q→C_ (A_ X.prog X.w) X.A (isTrue e X.env (eval e X.env)) (fun b s'=>(b=b_∨1≤s'.toks)∧TP X f' σ Q b s') X.xe s
structure FWg (X:Cx) (e:D_) (f:FnB):Prop where
 h:∀ (whole:Sem d_) (f':List (k_×Obj)) (s:e_) (σ:L2.St) (H:Hp) (Q:Bool→Hp→Prop),Inv X f' σ H s→tT X f σ H Q→C_ (A_ X.prog X.w) X.A (isTrue e X.env whole) (fun b s'=>(b=b_∨1≤s'.toks)∧TP X f' σ Q b s') X.xe s
def DR:Flow→Bool
 | .next=>b_
 | _=>c_
section
variable {X:Cx} {a b o e:D_} {fa fo:FnE} {ga gb:FnB} {f g:FnS} {rest:List D_} {st:F_} {sts as bs:List F_} {pos apos cpos:Pos}
theorem FWg.ft (h:FWg X e ga):FTg X e ga:=⟨h.h _⟩
end
section
variable {prog:pi} {w:EO} {A:EQ} {E:d_→e_→Prop} {s:e_}
end
section
variable {prog:pi} {w:EO} {A:EQ} {E:d_→e_→Prop} {s:e_}
end
theorem EN {z TI TO i1 i2 c:k_} (h:c∈[z,TI,TO,i1,i2]):c=z∨c=TI∨c=TO∨c=i1∨c=i2:=by simpa using h
def tgG (X:Cx) (b:Dv→Ev→Option Ev):TG:=fun v σ H Q=>∃ d ρ ρ',Rep X.K H d v∧Envs X.K H σ ρ∧b d ρ=some ρ'∧∀ σ' H',Same H H'→Envs X.K H' σ' ρ'→Q σ' H'
theorem FG.pg {X:Cx} {tg:D_} {b:Dv→Ev→Option Ev} (h:FG X tg b):PG X tg (tgG X b):=fun f' s σ H v u Q I r ⟨d,ρ,ρ',rd,E,e,q⟩ =>
 thn (h.h f' s σ H v u d ρ ρ' I r rd E e) fun _ s' ⟨σ',H',I',e1,E'⟩=>⟨σ',H',I',q σ' H' e1 E'⟩
section
variable {X:Cx} {p pos:Pos} {e:D_} {es:List D_} {ga:FnA}
end
def pB (fi fe:FnE):dD:=fun ρ ds=>lV (fe ρ) fun d=>lV (fi ρ) fun k=>match k with
 | .int k=>if 0≤k∧k < ds.length then some (.nx ρ (ds.set k.toNat d)) else none
 | _=>none
theorem Reps.set {K:ck} {H:Hp} {d:Dv} {v:V} (rd:Rep K H d v):∀ {ds:List Dv} {vs:List V} (j:Nat),Reps K H ds vs→Reps K H (ds.set j d) (vs.set j v)
 | [],vs,j,r=>by cases (show vs=[] from r); exact r
 | d0 :: ds,vs,0,r=>by
  obtain ⟨v0,vs',rfl,r0,rt⟩:∃ v us',vs=v :: us'∧Rep K H d0 v∧Reps K H ds us':=r;exact ⟨v,vs',rfl,rd,rt⟩
 | d0 :: ds,vs,j + 1,r=>by
  obtain ⟨v0,vs',rfl,r0,rt⟩:∃ v us',vs=v :: us'∧Rep K H d0 v∧Reps K H ds us':=r;exact ⟨v0,vs'.set j v,rfl,r0,Reps.set rd j rt⟩
section
variable {X:Cx} {i:Nat} {e ix:D_} {fe fi:FnE} {pos ps:Pos}
theorem rX (hex:X.ex=[]) {x:Str} {apos:Pos} (hx:PE X (.Name x apos) (xg i)) (hi:FE X ix fi) (he:FE X e fe)
 (hs:swapsWithSole [.Subscript (.Name x apos) ix ps] e pos.line X.env=pure c_:=by kernel_rfl) (hw:swappedStores [.Subscript (.Name x apos) ix ps] e X.env=pure none:=by kernel_rfl)
 (h1:(assignEach [.Subscript (.Name x apos) ix ps] X.env).map (·.2)=[JV (.Subscript (.Name x apos) ix ps) X.env]:=by kernel_rfl)
 (ha:∀ v,JV (.Subscript (.Name x apos) ix ps) X.env v=(do let ov ← Iw [v] (eval (.Name x apos) X.env); let iv ← Iw [v,ov] (eval ix X.env); standAt ps; Iw [v,ov,iv] (setItem ov iv v); release [v,ov,iv] []):=by intro _; kernel_rfl) :
 FO1 X i (.Assign [.Subscript (.Name x apos) ix ps] e pos) (pB fi fe):=⟨fun f' s σ Hf D I ⟨H,a,xs,ρ,ds,e1,ha',hia,E,r,o⟩=>by
 refine xL (kZ hex he.h) (xK hx (kZ hex hi.h) qY ha) hs hw h1 f' s σ Hf D I ⟨H,a,xs,e1,ha',ρ,E,?_⟩;unfold pB at o
 match hfe:fe ρ with
 | none=>rw [hfe] at o; exact o.elim
 | some (.exc _)=>rw [hfe] at o; exact o.elim
 | some (.ok d) =>
  rw [hfe] at o
  match hfi:fi ρ with
  | none=>dsimp only [lV] at o; rw [hfi] at o; exact o.elim
  | some (.exc _)=>dsimp only [lV] at o; rw [hfi] at o; exact o.elim
  | some (.ok k) =>
   dsimp only [lV] at o;rw [hfi] at o;dsimp only at o;intro v H' e' rd ha2;refine ⟨.ref a,hia,H',a,xs,rfl,ha2,ρ,E.mono e',?_⟩;show Out X H' (fi ρ) _;rw [hfi];intro w H2 e2 rk ha3;cases k <;> try exact (show False from o).elim
   rename_i k;dsimp only at o;split at o
   · rename_i hk;cases (show w=.int k from rk);have hl:=r.length;have hj:ixN xs.length k=some k.toNat:=by
      unfold ixN;rw [if_pos hk.1,if_pos (by omega)]
     refine ⟨a,xs,k,k.toNat,rfl,rfl,ar,hj,?_⟩;rw [nH];exact o σ H2 (xs.set k.toNat v) (e'.trans e2) ha3 hia (E.mono (e'.trans e2)) (Reps.set (Rep.mono e2 _ _ rd) k.toNat (Reps.mono (e'.trans e2) _ _ r))
   · exact o.elim⟩
end
def qM:List Dv→Option (Rs Dv)
 | [.str x]=>if x.length≤640 then (match HV x with | some n=>some (.ok (.int n)) | none=>none) else none
 | _=>none
section
variable {X:Cx} {p pos:Pos} {e:D_} {es:List D_} {ga:FnA}
theorem pC:CallR X (.type "int") (fun xs H Q=>∃ x i,xs=[.str x]∧x.length≤640∧HV x=some i∧Q (.int i) H):=by
 intro f' s σ H xs us Q I r h;obtain ⟨x,i,rfl,hl,hx,q⟩:=h;obtain ⟨u,rfl,t,rfl⟩:=gw r;exact PySem.W.KIN.call_text hx hl ⟨.int _,H,I.tok _,⟨_,rfl⟩,q⟩
theorem rY (hg:Gl X "int") (hm:X.mg "int"=none) (ha:FA X (e :: es) ga) (he:j_ (e :: es) X.env=(c_,eval e X.env) :: j_ es X.env:=by kernel_rfl) (hpl:(FV pos (j_ es X.env)).any (·.1)=c_:=by kernel_rfl):FE X (.Call (.Name "int" p) (e :: es) [] pos) (fB1 qM ga) :=
 bR (fz pC hg hm (by decide +kernel) ha.h (by decide) (by decide) he hpl) fun σ H Q ρ E o=>⟨ρ,E,OutA.bind o fun ds vs H1 e1 rs o1=>by
  unfold qM at o1;split at o1
  · rename_i x;split at o1
    · rename_i hl;split at o1
      · rename_i n hn;obtain ⟨v,rfl,r⟩:=eJ rs;cases (show v=.str x from r);exact ⟨x,n,rfl,hl,hn,o1 _ H1 (.refl H1) rfl⟩
      · exact o1.elim
    · exact o1.elim
  · exact o1.elim⟩
end
theorem mW (its:List d_):slicePick its.toArray none none (some (-1))=its.reverse.toArray:=by
 have e:K8 ((its.length:Int) - 1) (-1) (-1)=(l_ its.length).map fun (k:Nat)=>((its.length:Int) - 1 + (-1) * (k:Int)).toNat:=by
  have hc:(if (-1:Int) > 0 then (if ((its.length:Int) - 1) < -1 then (-1 - ((its.length:Int) - 1) + (-1) - 1) / (-1) else 0) else (if ((its.length:Int) - 1) > -1 then (((its.length:Int) - 1) - (-1) - (-1) - 1) / (-(-1)) else 0))=(its.length:Int):=by
   rw [if_neg (by decide)];split
   · have:((its.length:Int) - 1 - (-1) - (-1) - 1) / (-(-1))=(its.length:Int):=by
      rw [show ((its.length:Int) - 1 - (-1) - (-1) - 1)=(its.length:Int) by omega,show (-(-1):Int)=1 by decide,LU]
     exact this
   · omega
  unfold K8;dsimp only;rw [hc];simp
 show ((K8 ((its.toArray.size:Int) - 1) (-1) (-1)).filterMap (its.toArray[·]?)).toArray=_;rw [v_,e,GH,← o5];congr 2;funext m;show its.toArray[((its.length:Int) - 1 + (-1) * (m:Int)).toNat]?=_;rw [show ((its.length:Int) - 1 + (-1) * (m:Int))=((its.length:Int) - 1 + (m:Int) * -1) by omega]
def CK:Dv→Option (Rs Dv)
 | .lst xs=>some (.ok (.lst xs.reverse))
 | _=>none
def fK (fa:FnE):FnE:=fun ρ=>bnd (fa ρ) CK
section
variable {X:Cx}
theorem rZ {a st:D_} {fa fs:FnE} {p2 pos:Pos} (ha:FE X a fa) (hst:FE X st fs) (hv:∀ ρ,fs ρ=some (.ok (.int (-1))):=by intro _; rfl):FE X (.Subscript a (.Slice none none (some st) p2) pos) (fK fa):=⟨fun f' s σ H Q I ⟨ρ,E,o⟩=>by
 refine Subscript_ (thn (ha.h f' s σ H (fun x H1=>Envs X.K H1 σ ρ∧∃ ds,Rep X.K H1 (.lst ds) x∧Out X H1 (some (.ok (.lst ds.reverse))) Q) I ⟨ρ,E,Out.bind o fun d v H1 e1 r1 o1=>?_⟩) fun v s1 ⟨x,H1,I1,r1,E1,ds,rx,q⟩=>?_)
 · cases d <;> try exact (show False from o1).elim
   exact ⟨E.mono e1,_,r1,o1⟩
 · refine wpAny_Slice ?_;rw [K1];refine m_ ?_;refine m_ ?_;rw [evalPart_some];refine thn (hst.h f' s1 σ H1 (fun y H2=>y=.int (-1)∧Same H1 H2) I1 ⟨ρ,E1,by rw [hv]; exact fun v H' e r=>⟨r,e⟩⟩) fun u s3 ⟨y,H3,I3,r3,e3,e4⟩=>?_;subst e3;obtain ⟨tk,rfl⟩:=r3;obtain ⟨b,xs,rfl,h1,h2⟩:=(Rep.mono e4 _ _ rx).lstE;cases r1;have I4:Inv X f' σ H3 { s3 with heap:=s3.heap.push { cls:=.type "slice",data:=.fields #[.none,.none,.int (-1) tk] } }:=I3.kept (t':=s3.toks) fun b ob q=>on _ q;obtain ⟨its,r,ht,hz⟩:=I4.list (SqL.of h1);have hlen:=r.length;show C_ (A_ X.prog X.w) X.A (K5 a (.Slice none none (some st) p2) (.ref b) (.ref s3.heap.objs.size)) (EP X f' σ Q) X.xe _;refine tail_any (ops:=[.ref b,.ref s3.heap.objs.size]) ht.isList.typeIs Jp.lookup (Jy ht.isList (Lf ..) .none .none (.int (-1) tk) (by simp) ?_ (by rw [v_] <;> omega)) (by with_unfolding_all rfl);rw [mW];have hp:=I4.hok.fresh (p_ _);refine ⟨.ref _,_,I4.laid (t':=s3.toks) (o:=.lst xs.reverse) (fun b ob q=>on _ q) (p_ _) ?_,rfl,q _ _ (e4.trans (aA hp _)) ⟨_,_,rfl,ar,Reps.mono (aA hp _) _ _ (Reps.reverse h2)⟩⟩;exact ⟨by rw [KW]; exact hz,_,0,Vals.reverse r,EY _ rfl⟩⟩
end
section
variable {X:Cx}
end
end FD
namespace ST
open PySem PySem.SetTable
abbrev Rise (xs:Array Nat):Prop:=xs.toList.Pairwise (· < ·)
theorem Rise.lt {xs:Array Nat} (R:Rise xs) {i k:Nat} (hi:i < xs.size) (hk:k < xs.size) (h:i < k):xs[i] < xs[k]:=by
 have:=Jk.mp R i k (by simpa using hi) (by simpa using hk) h;simpa using this
theorem Rise.le {xs:Array Nat} (R:Rise xs) {i k:Nat} (hi:i < xs.size) (hk:k < xs.size) (h:i≤k):xs[i]≤xs[k]:=by
 rcases Nat.lt_or_ge i k with h' | h'
 · exact Ia (R.lt hi hk h')
 · have:i=k:=by omega
   subst this;exact p_ _
theorem jc {xs:Array Nat} (R:Rise xs) (j:Nat):∀ (fuel lo hi:Nat),lo≤hi→hi≤xs.size→hi - lo≤fuel→(∀ i (h:i < xs.size),i < lo→xs[i] < j)→(∀ i (h:i < xs.size),hi≤i→j≤xs[i]) →
 (∀ i (h:i < xs.size),i < JJ xs j fuel lo hi→xs[i] < j)∧(∀ i (h:i < xs.size),JJ xs j fuel lo hi≤i→j≤xs[i])
 | 0,lo,hi,h1,h2,h3,a,b=>by
  unfold JJ;have:lo=hi:=by omega
  subst this;exact ⟨a,b⟩
 | fuel + 1,lo,hi,h1,h2,h3,a,b=>by
  unfold JJ;split
  · rename_i hlt;have hm:(lo + hi) / 2 < xs.size:=by omega
    dsimp only;have hg:xs.getD ((lo + hi) / 2) j=xs[(lo + hi) / 2]:=by simp [Array.getD,hm]
    rw [hg];split
    · rename_i hc;exact jc R j fuel _ hi (by omega) h2 (by omega) (fun i h hi'=>Lj (R.le h hm (by omega)) hc) b
    · rename_i hc;exact jc R j fuel lo _ (by omega) (by omega) (by omega) a fun i h hi'=>EW (Ma hc) (R.le hm h hi')
  · have:lo=hi:=by omega
    subst this;exact ⟨a,b⟩
theorem iK {xs:Array Nat} (R:Rise xs) (j:Nat):(∀ i (h:i < xs.size),i < below xs j→xs[i] < j)∧(∀ i (h:i < xs.size),below xs j≤i→j≤xs[i]) :=
 jc R j xs.size 0 xs.size (F7 _) (p_ _) (by omega) (fun i h hi=>absurd hi (GC _)) fun i h hi=>absurd h (by omega)
theorem r8 {xs:Array Nat} (R:Rise xs) {i j:Nat} (h:xs[i]?=some j):below xs j=i:=by
 obtain ⟨hi,e⟩:=F0.mp h;obtain ⟨a,b⟩:=iK R j;rcases LN (below xs j) i with q | q | q
 · have h1:=b (below xs j) (by omega) (p_ _);have h2:=R.lt (by omega) hi q;omega
 · exact q
 · have h1:=a i hi q;omega
theorem jX {t:SetTable} (R:Rise t.place) {i j:Nat} (h:t.place[i]?=some j):t.slot j=.live i:=by
 unfold ML;dsimp only;rw [r8 R h,h];simp
theorem la {t:SetTable} {n:Nat} (T:Tb t n) (R:Rise t.place) {j:Nat}:t.slot j≠.empty↔j∈t.place.toList:=by
 constructor
 · intro h;rcases eD T j with q | ⟨i,_,e⟩
   · exact absurd q h
   · exact FB.mpr (Io e)
 · intro h;obtain ⟨i,hi,e⟩:=Hw h;have:t.place[i]?=some j:=by
    rw [← FZ,Ff hi,e]
   rw [jX R this];intro z;cases z
def tm (m:Nat):SetTable:={ mask:=m,place:=#[],dummies:=#[],finger:=0,led:=b_,moves:=0,plain:=b_ }
theorem jY (t:SetTable):∀ (n:Nat) (p:Probe),advN t n p=advN (tm t.mask) n p
 | 0,p=>rfl
 | n + 1,p=>jY t n _
def pos (m:Nat) (h:Int) (n:Nat):Nat:=(advN (tm m) n ((tm m).probeStart h)).j
theorem lZ (t:SetTable) (h:Int) (n:Nat):(advN t n (t.probeStart h)).j=pos t.mask h n:=by
 rw [jY]; rfl
def Pth (m:Nat) (l:List Nat) (h:Int) (j:Nat):Prop:=∃ N,N < 10 * IA m∧pos m h N=j∧∀ x,x < N→pos m h x∈l
theorem Pth.mono {m:Nat} {l l':List Nat} {h:Int} {j:Nat} (p:Pth m l h j) (hs:∀ x∈l,x∈l'):Pth m l' h j:=by
 obtain ⟨N,h1,h2,h3⟩:=p;exact ⟨N,h1,h2,fun x hx=>hs _ (h3 x hx)⟩
def asc (t:SetTable) (es:Array (Int×d_)):List (Nat×(Int×d_)):=t.place.toList.zip es.toList
def Pa (t:SetTable) (es:Array (Int×d_)):Prop:=∀ je∈asc t es,Pth t.mask t.place.toList je.2.1 je.1
theorem l4 {α:Type} (xs:Array α) (p:Nat) (x:α) (h:p≤xs.size):(xy xs p x).toList=xs.toList.take p ++ x :: xs.toList.drop p:=by
 rw [SetTable.toList_insertAt]
theorem vz {α β:Type} (a:List α) (b:List β) (p:Nat) (x:α) (y:β) (hl:a.length=b.length):(a.take p ++ x :: a.drop p).zip (b.take p ++ y :: b.drop p)=(a.zip b).take p ++ (x,y) :: (a.zip b).drop p:=by
 rw [List.zip_append (by simp [hl]),Lk];simp only [List.zip_eq_zipWith,List.take_zipWith,List.drop_zipWith]
theorem pD {α:Type} (l:List α) (p:Nat) (x y:α):y∈l.take p ++ x :: l.drop p↔y=x∨y∈l:=by
 rw [t_,q_];constructor
 · rintro (h | h | h)
   · exact .inr (KD h)
   · exact .inl h
   · exact .inr (GA h)
 · rintro (h | h)
   · exact .inr (.inl h)
   · rw [← Im p l,t_] at h;rcases h with h | h
     · exact .inl h
     · exact .inr (.inr h)
theorem r9 {t:SetTable} {n:Nat} (T:Tb t n) (R:Rise t.place) {es:Array (Int×d_)} (hs:es.size=n) {j:Nat} (hj:t.slot j=.empty) (e:Int×d_) :
 Rise (t.put j).1.place∧(∀ x,x∈(t.put j).1.place.toList↔x=j∨x∈t.place.toList)∧∀ x,x∈asc (t.put j).1 (xy es (t.put j).2 e)↔x=(j,e)∨x∈asc t es:=by
 have hn:j ∉ t.place.toList:=fun h=>(la T R).mpr h hj;have hp:(t.put j).2=below t.place j:=rfl;have hle:=ja t.place j;have e1:(t.put j).1.place.toList=t.place.toList.take (below t.place j) ++ j :: t.place.toList.drop (below t.place j):=l4 _ _ _ hle;have e2:(xy es (t.put j).2 e).toList=es.toList.take (below t.place j) ++ e :: es.toList.drop (below t.place j):=l4 _ _ _ (by rw [hp,hs,← T.size]; exact hle);obtain ⟨a,b⟩:=iK R j;refine ⟨?_,fun x=>by rw [e1]; exact pD _ _ _ _,fun x=>?_⟩
 · show (t.put j).1.place.toList.Pairwise (· < ·);rw [e1,KC,List.pairwise_cons];have lo:∀ x∈t.place.toList.take (below t.place j),x < j:=by
    intro x hx;obtain ⟨i,hi,e⟩:=Hw hx;rw [List.getElem_take] at e;have h1:i < below t.place j∧i < t.place.size:=by simp only [GZ,ES] at hi; omega
    have:=a i h1.2 h1.1;rw [← e];simpa using this
   have hi':∀ x∈t.place.toList.drop (below t.place j),j < x:=by
    intro x hx;have hm:=GA hx;obtain ⟨i,hi,e⟩:=Hw hx;rw [List.getElem_drop] at e;have h1:below t.place j + i < t.place.size:=by simp only [Gs,ES] at hi; omega
    have:=b _ h1 (Nat.le_add_right _ _);have h2:j≤x:=by rw [← e]; simpa using this
    have:j≠x:=fun z=>hn (z ▸ hm);omega
   exact ⟨R.sublist (LP _ _),⟨hi',R.sublist (List.drop_sublist _ _)⟩,fun x hx y hy=>by
    rcases q_.mp hy with rfl | hy
    · exact lo x hx
    · exact J_ (lo x hx) (hi' y hy)⟩
 · unfold asc;rw [e1,e2,vz _ _ _ _ _ (by simp [T.size,hs])];exact pD _ _ _ _
theorem l7 (t:SetTable):∀ (k:Nat) (p:Probe),k≤p.more→(advN t k p).j=p.j + k
 | 0,p,_=>rfl
 | k + 1,p,h=>by
  show (advN t k (t.advance p)).j=_;rw [i8 t p (by omega),l7 t k _ (by show k≤p.more - 1; omega)];show p.j + 1 + k=p.j + (k + 1);omega
theorem mX {P:Nat→Bool}:∀ {n k:Nat},(l_ n).find? P=some k→k < n∧P k=b_∧∀ x,x < k→P x=c_:=by
 intro n k h;have h1:=Mp h;have h2:=Fd.mp (List.mem_of_find?_eq_some h);refine ⟨h2,h1,fun x hx=>?_⟩;rw [List.find?_eq_some_iff_append] at h;obtain ⟨_,as,bs,e,hn⟩:=h;have hk:as.length=k:=by
  have:=congrArg (fun l=>l[as.length]?) e;simp only [FN (p_ _),Nat.sub_self,HR] at this;rw [E_] at this;obtain ⟨q,r⟩:=this;simpa using r
 have hxm:x∈as:=by
  have this:(l_ n)[x]?=(as ++ k :: bs)[x]?:=by rw [e]
  rw [FQ (by omega),IL (by omega)] at this;exact Gf this.symm
 have:=hn x hxm;simpa using this
theorem jZ {m:Nat} {owner:Array (Option Nat)}:∀ (fuel:Nat) (p:Probe) (j:Nat),p.j=p.i→p.more=Iq m p.i - p.i→Gg m owner fuel p.i p.perturb=some j →
 (owner.getD j (some 0)).isNone=b_∧∃ N,N < 10 * fuel∧(advN (tm m) N p).j=j∧∀ x,x < N→(owner.getD (advN (tm m) x p).j (some 0)).isNone=c_
 | 0,p,j,_,_,h=>by unfold Gg at h; cases h
 | fuel + 1,p,j,hj,hm,h=>by
  have hr:=g7 m p.i;unfold Gg at h;have hlen:Iq m p.i + 1 - p.i=p.more + 1:=by
   rw [hm];have:p.i≤Iq m p.i:=by unfold Iq; split <;> omega
   omega
  rw [hlen] at h;split at h
  · rename_i k hk;cases h;obtain ⟨q1,q2,q3⟩:=mX hk;refine ⟨q2,k,by omega,by rw [l7 _ _ _ (by omega),hj],fun x hx=>?_⟩;rw [l7 _ _ _ (by omega),hj];exact q3 x hx
  · rename_i hk;have hall:∀ x,x≤p.more→(owner.getD (p.i + x) (some 0)).isNone=c_:=by
     intro x hx;have:=Lm.mp hk x (Fd.mpr (by omega));rw [Me] at this;exact this
    obtain ⟨r1,N,r2,r3,r4⟩:=jZ fuel (iH (tm m) p) j rfl rfl h;refine ⟨r1,p.more + 1 + N,by omega,by rw [ci,g8 _ _ _ rfl]; exact r3,fun x hx=>?_⟩;by_cases hc:x≤p.more
    · rw [l7 _ _ _ hc,hj];exact hall x hc
    · obtain ⟨y,rfl⟩:∃ y,x=p.more + 1 + y:=⟨x - (p.more + 1),by omega⟩;rw [ci,g8 _ _ _ rfl];exact r4 y (by omega)
def vA (m:Nat) (owner:Array (Option Nat)) (hs:Nat→Option Int):Prop:=∀ j x,owner[j]?=some (some x)→∃ h,hs x=some h∧∃ N,N < 10 * IA m∧pos m h N=j∧∀ y,y < N→(owner.getD (pos m h y) (some 0)).isNone=c_∧pos m h y≤m
theorem zu (m:Nat) (h:Int):∀ n,pos m h n≤m:=by
 have key:∀ (n:Nat) (p:Probe),p.i≤m→p.j + p.more≤m→(advN (tm m) n p).j≤m:=by
  intro n
  induction n with
  | zero=>intro p _ h2; show p.j≤m; omega
  | succ n ih =>
   intro p h1 h2;show (advN (tm m) n ((tm m).advance p)).j≤m;by_cases hc:0 < p.more
   · rw [i8 _ p hc];exact ih _ h1 (by show p.j + 1 + (p.more - 1)≤m; omega)
   · rw [i7 _ p (by omega)];have hl:(Hh m p.i p.perturb).1≤m:=by
      show (p.i * 5 + 1 + p.perturb / 32) % (m + 1)≤m;exact Gm (HH _ (G9 m))
     refine ih _ hl ?_;show (Hh m p.i p.perturb).1 + (Iq m (Hh m p.i p.perturb).1 - (Hh m p.i p.perturb).1)≤m;unfold Iq;split <;> omega
 intro n;have hb:bits h % (m + 1)≤m:=Gm (HH _ (G9 m));refine key n _ hb ?_;show bits h % (m + 1) + (Iq m (bits h % (m + 1)) - bits h % (m + 1))≤m;unfold Iq;split <;> omega
theorem j4 {m:Nat} {hf:Nat→Option Int}:∀ (hs:List Int) (owner o2:Array (Option Nat)) (k k2:Nat),owner.size=m + 1→(∀ i (h:i < hs.length),hf (k + i)=some hs[i])→vA m owner hf→hs.foldl (jV m) (some (owner,k))=some (o2,k2)→vA m o2 hf
 | [],owner,o2,k,k2,_,_,hP,e=>by cases e; exact hP
 | h :: hs,owner,o2,k,k2,hz,hh,hP,e=>by
  rw [Ga] at e;have hnone:∀ (l:List Int),l.foldl (jV m) none=none:=fun l=>by
   induction l with
   | nil=>rfl
   | cons a l ih=>exact ih
  have hst:jV m (some (owner,k)) h=(Gg m owner (IA m) (bits h % (m + 1)) (bits h)).bind (fun j=>some (owner.setIfInBounds j (some k),k + 1)):=rfl;cases hfr:Gg m owner (IA m) (bits h % (m + 1)) (bits h) with
  | none=>rw [hst,hfr] at e; rw [show (none:Option Nat).bind (fun j=>some (owner.setIfInBounds j (some k),k + 1))=none from rfl,hnone] at e; cases e
  | some j =>
   rw [hst,hfr] at e;obtain ⟨f1,N,f2,f3,f4⟩:=jZ (m:=m) (owner:=owner) (IA m) ((tm m).probeStart h) j rfl rfl hfr;obtain ⟨g1,g2⟩:=getD_none f1;refine j4 hs (owner.setIfInBounds j (some k)) o2 (k + 1) k2 (by rw [JE]; exact hz) (fun i hi=>by
    have:=hh (i + 1) (by simpa using hi);rw [show k + 1 + i=k + (i + 1) by omega];simpa using this) ?_ e
   have keep:∀ x,(owner.getD x (some 0)).isNone=c_→((owner.setIfInBounds j (some k)).getD x (some 0)).isNone=c_:=by
    intro x hx;rw [FK] at hx ⊢;rw [IH];split
    · first
       | rfl
       | (split <;> rfl)
    · exact hx
   intro j' x hx;rw [IH] at hx;split at hx
   · rename_i hjj;subst hjj;have hx:(some (some k):Option (Option Nat))=some (some x):=by
      first
       | exact hx
       | (rw [if_pos g1] at hx; exact hx)
     cases hx;have h0:=hh 0 (by simp);refine ⟨h,by simpa using h0,N,f2,f3,fun y hy=>⟨keep _ (f4 y hy),zu m h y⟩⟩
   · obtain ⟨h',a1,N',a2,a3,a4⟩:=hP j' x hx;exact ⟨h',a1,N',a2,a3,fun y hy=>⟨keep _ (a4 y hy).1,(a4 y hy).2⟩⟩
theorem jd {m:Nat} (hs:Array Int) {o2:Array (Option Nat)} (e:MC m hs=some o2):vA m o2 fun i=>hs[i]?:=by
 unfold MC at e;rw [← Lq] at e;have e1:(MG (fun acc h=>do
  let (owner,k) ← acc
  let j ← Gg m owner (IA m) (bits h % (m + 1)) (bits h)
  pure (owner.setIfInBounds j (some k),k + 1)) (some (GN (m + 1) none,0)) hs.toList:Option (Array (Option Nat)×Nat))=hs.toList.foldl (jV m) (some (GN (m + 1) none,0)):=rfl
 rw [e1] at e;cases hf:hs.toList.foldl (jV m) (some (GN (m + 1) none,0)) with
 | none=>rw [hf] at e; cases e
 | some q =>
  rw [hf] at e;cases e;exact j4 hs.toList (GN (m + 1) none) q.1 0 q.2 (by simp) (fun i hi=>by
   have hi':i < hs.size:=by simpa using hi
   simp [hi']) (fun j x hx=>by
    rw [Array.getElem?_replicate] at hx;split at hx <;> cases hx) hf
theorem pE {m finger moves:Nat} {led plain:Bool} (c:mU m=b_) (es:Array (Int×d_)) (hl:es.size≤m) {t:SetTable} {order:Array Nat} (e:laid m finger moves led plain (es.map (·.1))=some (t,order)) :
 Rise t.place∧(∀ je∈asc t (order.filterMap (fun i=>es[i]?)),je.2∈es.toList)∧Pa t (order.filterMap (fun i=>es[i]?)):=by
 obtain ⟨o2,c1,c2,c3⟩:=hU c (es.map (·.1)) (by simpa using hl);have hp:=jd (es.map (·.1)) c1;unfold laid at e;rw [c1] at e;cases e;have hlive:∀ jk∈(l_ (m + 1)).filterMap fun j=>(o2.getD j none).map (j,·),o2[jk.1]?=some (some jk.2):=by
  intro jk hjk;obtain ⟨j,hj,q⟩:=Gc.mp hjk;rw [FU] at q;obtain ⟨x,hx,rfl⟩:=q;have hj':=Fd.mp hj;rw [FK] at hx;cases hg:o2[j]? with
  | none=>rw [hg] at hx; cases hx
  | some y=>rw [hg] at hx; have:y=some x:=hx; rw [← this]
 have hsome:∀ jk∈(l_ (m + 1)).filterMap fun j=>(o2.getD j none).map (j,·),∃ e,es[jk.2]?=some e:=by
  intro jk hjk;obtain ⟨h,h1,_⟩:=hp _ _ (hlive jk hjk);dsimp only at h1;rw [Lo,FU] at h1;obtain ⟨e,he,_⟩:=h1;exact ⟨e,he⟩
 have hin:∀ y,(o2.getD y (some 0)).isNone=c_→y≤m→y∈((l_ (m + 1)).filterMap fun j=>(o2.getD j none).map (j,·)).map (·.1):=by
  intro y hy hle;have hlt:y < o2.size:=by omega
  rw [FK,F4 hlt] at hy;cases hv:o2[y] with
  | none=>rw [hv] at hy; simp at hy
  | some x =>
   refine Fq.mpr ⟨(y,x),Gc.mpr ⟨y,Fd.mpr (by omega),?_⟩,rfl⟩;rw [FK,F4 hlt,hv];rfl
 generalize hL:((l_ (m + 1)).filterMap fun j=>(o2.getD j none).map (j,·))=L at *;have hasc:∀ (l:List (Nat×Nat)),(∀ jk∈l,∃ e,es[jk.2]?=some e)→(l.map (·.1)).zip ((l.map (·.2)).filterMap fun i=>es[i]?)=l.filterMap fun jk=>(es[jk.2]?).map (jk.1,·):=by
  intro l
  induction l with
  | nil=>intro _; rfl
  | cons a l ih =>
   intro h;obtain ⟨e,he⟩:=h a g_;simp only [Fe,Gp,he,Lk,HB];rw [ih fun b hb=>h b (f_ _ hb)]
 have easc:asc { mask:=m,place:=(L.map (·.1)).toArray,dummies:=#[],finger:=finger,led:=led,moves:=moves,plain:=plain } (((L.map (·.2)).toArray).filterMap (fun i=>es[i]?))=L.filterMap fun jk=>(es[jk.2]?).map (jk.1,·):=by
  unfold asc;rw [Kb];exact hasc L hsome
 refine ⟨?_,fun je hje=>?_,fun je hje=>?_⟩
 · show (L.map (·.1)).toArray.toList.Pairwise (· < ·);rw [IJ,← hL,List.pairwise_map];refine List.Pairwise.filterMap _ (R:=(· < ·)) ?_ List.pairwise_lt_range;intro a a' hlt b hb b' hb';obtain ⟨x,_,rfl⟩:=FU.mp hb;obtain ⟨x',_,rfl⟩:=FU.mp hb';exact hlt
 · rw [easc] at hje;obtain ⟨jk,_,q⟩:=Gc.mp hje;obtain ⟨e,he,rfl⟩:=FU.mp q;exact FB.mpr (Io he)
 · rw [easc] at hje;obtain ⟨jk,hjk,q⟩:=Gc.mp hje;obtain ⟨e,he,rfl⟩:=FU.mp q;obtain ⟨h,h1,N,h2,h3,h4⟩:=hp _ _ (hlive jk hjk);dsimp only at h1;rw [Lo,he] at h1;cases h1;refine ⟨N,h2,h3,fun x hx=>?_⟩;show pos m e.1 x∈(L.map (·.1)).toArray.toList;rw [IJ];exact hin _ (h4 x hx).1 (h4 x hx).2
theorem mf (m:Nat):∀ (a b i:Nat),it m (a + b) i=it m b (it m a i)
 | 0,b,i=>by rw [Ht]; rfl
 | a + 1,b,i=>by rw [LK]; exact mf m a b (stp m i)
def orb (m:Nat):Nat→Nat→List Nat
 | 0,_=>[]
 | n + 1,i=>i :: orb m n (stp m i)
theorem ub (m:Nat):∀ (n i j:Nat),j∈orb m n i→∃ k,k < n∧it m k i=j
 | 0,_,_,h=>by simp [orb] at h
 | n + 1,i,j,h=>by
  rcases q_.mp h with rfl | h
  · exact ⟨0,by omega,rfl⟩
  · obtain ⟨k,h1,h2⟩:=ub m n _ j h;exact ⟨k + 1,by omega,h2⟩
theorem vB:((l_ 128).all fun j=>(orb 127 128 0).contains j)=b_:=by decide +kernel
theorem se:it 127 128 0=0:=by decide +kernel
theorem zv:mU 127=b_:=by
 have hit:∀ j,j < 128→∃ k,k < 128∧it 127 k 0=j:=fun j hj=>by
  have:=r_.mp vB j (Fd.mpr hj);exact ub 127 128 0 j (by simpa using this)
 unfold mU;refine r_.mpr fun i hi=>r_.mpr fun j hj=>Md.mpr ?_;obtain ⟨a,ha,ea⟩:=hit i (Fd.mp hi);obtain ⟨b,hb,eb⟩:=hit j (Fd.mp hj);by_cases hc:a≤b
 · refine ⟨b - a,Fd.mpr (by omega),?_⟩;rw [← ea,← mf,show a + (b - a)=b by omega,eb];simp
 · refine ⟨128 - a + b,Fd.mpr (by omega),?_⟩;rw [← ea,← mf,show a + (128 - a + b)=128 + b by omega,mf,se,eb];simp
theorem uc {t:SetTable} {n:Nat} (T:Tb t n) (hashAt:Nat→Int) (h:Int):∀ (N fuel:Nat) (p:Probe) (i0:Nat),Vp t p→N < fuel→t.slot (advN t N p).j=.live i0→(∀ k,k < N→t.slot (advN t k p).j≠.empty) →
 (∃ m i,m≤N∧t.slot (advN t m p).j=.live i∧t.place[i]?=some (advN t m p).j∧hashAt i=h∧Hm t hashAt h fuel p=some (.candidate (advN t m p).j i (advN t (m + 1) p)))∨hashAt i0≠h
 | N,0,p,i0,v,hf,_,_=>absurd hf (GC _)
 | N,fuel + 1,p,i0,v,hf,he,hn=>by
  have hne:t.slot p.j≠.empty:=by
   cases N with
   | zero=>rw [show t.slot p.j=.live i0 from he]; intro z; cases z
   | succ N=>exact hn 0 (by omega)
  rcases eD T p.j with h0 | ⟨i,h1,h2⟩
  · exact absurd h0 hne
  · by_cases hh:hashAt i=h
    · refine .inl ⟨0,i,by omega,h1,h2,hh,?_⟩;unfold Hm;rw [h1];dsimp only;rw [if_pos (by simpa using hh)];rfl
    · have hg:Hm t hashAt h (fuel + 1) p=Hm t hashAt h fuel (t.advance p):=by
       conv=>lhs; unfold Hm
       rw [h1];dsimp only;rw [if_neg (by simpa using hh)]
      cases N with
      | zero =>
       have:i=i0:=by
        have e:t.slot p.j=.live i0:=he;rw [h1] at e;cases e; rfl
       subst this;exact .inr hh
      | succ N =>
       rcases uc T hashAt h N fuel (t.advance p) i0 v.adv (by omega) he (fun k hk=>hn (k + 1) (by omega)) with ⟨m,i',q1,q2,q3,q4,q5⟩ | q
       · exact .inl ⟨m + 1,i',by omega,q2,q3,q4,by rw [hg,q5]; rfl⟩
       · exact .inr q
section
variable {prog:pi} {w:EO} {A:EQ} {E:d_→e_→Prop} {s:e_}
theorem lb {S b:k_} {o:Obj} {es:Array (Int×d_)} {ep:Nat} {t:SetTable} {ks:List (List Str)} {k:List Str} {h:Int} {adding:Bool} {Q:SetFound→e_→Prop} (hu:A.units < cLine)
 (ho:s.heap.get? S=some o) (hd:o.data=.set es ep t) (T:Tb t es.size) (hm:t.mask % 2=1) (hE:Ent prog w s.heap ks es.toList) (hx:TK prog w s.heap k b) (hk:k ∉ ks) :
 ∀ (N fuel:Nat) (st:Option Probe),(∀ p,st=some p→Vp t p)→N < fuel→t.slot (advN t N (st.getD (t.probeStart h))).j=.empty→(∀ m,m < N→t.slot (advN t m (st.getD (t.probeStart h))).j≠.empty)→N < 10 * IA t.mask →
  Q (.free (advN t N (st.getD (t.probeStart h))).j c_) s→C_ (A_ prog w) A (GR S (.ref b) h adding fuel st) Q E s:=by
 intro N
 induction N using Nat.strongRecOn with
 | _ N ih =>
  intro fuel st hv hf he hn hN hQ;cases fuel with
  | zero=>exact absurd hf (GC _)
  | succ fuel =>
   have hfit:=fW T;have v:Vp t (st.getD (t.probeStart h)):=by
    cases st with
    | none=>exact k6 h
    | some p=>exact hv p rfl
   unfold GR;refine ge (F5 ho hd hfit ?_);dsimp only;have hgw:t.gaveWay=c_:=by unfold L5; rw [hm]; rfl
   rw [hgw];simp only [EZ,if_false];unfold MB;rcases tY T _ h N _ (st.getD (t.probeStart h)) v hN he hn with q | ⟨m,i,hmN,q1,q2,q3,q5⟩
   · rw [q];dsimp only;exact m_ hQ
   · rw [q5];dsimp only;have hi:i < es.size:=by
      have:=(F0.mp q2).1;rw [T.size] at this;exact this
     obtain ⟨k',a,hk',ea,ta⟩:=hE es[i] (FB.mpr (LV hi));have hg:es[i]?=some (es[i].1,.ref a):=by rw [F4 hi,← ea]
     have rest:C_ (A_ prog w) A (do
      let some (_,y):=es[i]? | Jo "internal:set-entry"
      let equal ← Iw [y] (eqBool y (.ref b))
      let (es',_,t') ← setState S
      if (adding && equal)=b_ then return MD none
      let some same:=t'.sameMemory t.moves t.mask | Jo "set.changed-during-lookup:is-the-new-block-at-the-old-address"
      let still ← match (if same then t'.slot (advN t m (st.getD (t.probeStart h))).j else .empty) with
       | .live i'=>match es'[i']? with
        | some (_,y')=>do pure (if ← Mt y' y then some i' else none)
        | none=>pure none
       | _=>pure none
      match still with
      | none=>rule "set.search.anew"; GR S (.ref b) h adding fuel none
      | some i'=>if equal then return .there (some i') else GR S (.ref b) h adding fuel (some (advN t (m + 1) (st.getD (t.probeStart h))))) Q E s:=by
      rw [hg];dsimp only;refine ge (FX (wpAny_eqBool_tuple hu ta hx ?_));have hne:h_ (k'=k)=c_:=decide_eq_false fun z=>hk (z ▸ hk');rw [hne];refine ge (F5 ho hd hfit ?_);dsimp only;rw [Ij];simp only [EZ,if_false];have hsm:t.sameMemory t.moves t.mask=some b_:=by unfold KR; simp
      rw [hsm];dsimp only;rw [if_pos rfl,q1];dsimp only;rw [hg];dsimp only;have hsame:Mt (w_ a) (w_ a)=pure b_:=by
       unfold Mt;dsimp only;rw [if_pos (by simp)]
      rw [hsame];refine ge (ge (m_ (m_ ?_)));rw [if_pos rfl];refine ih (N - (m + 1)) (by omega) fuel (some (advN t (m + 1) (st.getD (t.probeStart h)))) (fun p hp=>by cases hp; exact Vp.advN (m + 1) v) (by omega) ?_ ?_ (by omega) (by
       show Q (.free (advN t (N - (m + 1)) (advN t (m + 1) (st.getD (t.probeStart h)))).j c_) s;rw [← ci,show m + 1 + (N - (m + 1))=N by omega];exact hQ)
      · show t.slot (advN t (N - (m + 1)) (advN t (m + 1) (st.getD (t.probeStart h)))).j=.empty;rw [← ci,show m + 1 + (N - (m + 1))=N by omega];exact he
      · intro x hx';show t.slot (advN t x (advN t (m + 1) (st.getD (t.probeStart h)))).j≠.empty;rw [← ci];exact hn _ (by omega)
     by_cases hled:t.led=b_
     · rw [hled];simp only [Gw,EZ,if_false];exact rest
     · have hled':t.led=c_:=by simpa using hled
       rw [hled'];simp only [Hq,if_true];refine ge (ua hx (fun v hv=>?_) ?_)
       · obtain ⟨e,he',rfl⟩:=Fq.mp hv;have hem:e∈es.toList:=by
          have:=FB.mp he';rw [Mg] at this;exact FB.mpr this.1
         obtain ⟨k2,a2,_,e2,t2⟩:=hE e hem;exact ⟨k2,a2,e2,t2⟩
       · simp only [EZ,if_false];exact rest
theorem mY {S b a0:k_} {i0:Nat} {o:Obj} {es:Array (Int×d_)} {ep:Nat} {t:SetTable} {ks:List (List Str)} {k:List Str} {Q:SetFound→e_→Prop} (hu:A.units < cLine)
 (ho:s.heap.get? S=some o) (hd:o.data=.set es ep t) (T:Tb t es.size) (hm:t.mask % 2=1) (hE:Ent prog w s.heap ks es.toList) (hx:TK prog w s.heap k b) (hi0:es[i0]?=some (hsh prog w k,.ref a0)) (h0:TK prog w s.heap k a0) :
 ∀ (N fuel:Nat) (st:Option Probe),(∀ p,st=some p→Vp t p)→N < fuel→t.slot (advN t N (st.getD (t.probeStart (hsh prog w k)))).j=.live i0→(∀ m,m < N→t.slot (advN t m (st.getD (t.probeStart (hsh prog w k)))).j≠.empty)→N < 10 * IA t.mask →
  Q (.there none) s→C_ (A_ prog w) A (GR S (.ref b) (hsh prog w k) b_ fuel st) Q E s:=by
 intro N
 induction N using Nat.strongRecOn with
 | _ N ih =>
  intro fuel st hv hf he hn hN hQ;cases fuel with
  | zero=>exact absurd hf (GC _)
  | succ fuel =>
   have hfit:=fW T;have v:Vp t (st.getD (t.probeStart (hsh prog w k))):=by
    cases st with
    | none=>exact k6 (hsh prog w k)
    | some p=>exact hv p rfl
   unfold GR;refine ge (F5 ho hd hfit ?_);dsimp only;have hgw:t.gaveWay=c_:=by unfold L5; rw [hm]; rfl
   rw [hgw];simp only [EZ,if_false];unfold MB;rcases uc T _ (hsh prog w k) N _ (st.getD (t.probeStart (hsh prog w k))) i0 v hN he hn with ⟨m,i,hmN,q1,q2,q3,q5⟩ | q
   · rw [q5];dsimp only;have hi:i < es.size:=by
      have:=(F0.mp q2).1;rw [T.size] at this;exact this
     obtain ⟨k',a,hc,hg,ta⟩:∃ k' a,(k'=k∨m < N)∧es[i]?=some (es[i].1,.ref a)∧TK prog w s.heap k' a:=by
      by_cases hii:i=i0
      · subst hii;refine ⟨k,a0,.inl rfl,?_,h0⟩;rw [hi0];rw [F4 hi] at hi0;rw [Fj hi0]
      · obtain ⟨k',a,_,ea,ta⟩:=hE es[i] (FB.mpr (LV hi));refine ⟨k',a,.inr ?_,by rw [F4 hi,← ea],ta⟩;rcases Nat.lt_or_ge m N with z | z
        · exact z
        · have:m=N:=by omega
          subst this;rw [q1] at he;cases he;exact absurd rfl hii
     have rest:C_ (A_ prog w) A (do
      let some (_,y):=es[i]? | Jo "internal:set-entry"
      let equal ← Iw [y] (eqBool y (.ref b))
      let (es',_,t') ← setState S
      if (b_ && equal)=b_ then return MD none
      let some same:=t'.sameMemory t.moves t.mask | Jo "set.changed-during-lookup:is-the-new-block-at-the-old-address"
      let still ← match (if same then t'.slot (advN t m (st.getD (t.probeStart (hsh prog w k)))).j else .empty) with
       | .live i'=>match es'[i']? with
        | some (_,y')=>do pure (if ← Mt y' y then some i' else none)
        | none=>pure none
       | _=>pure none
      match still with
      | none=>rule "set.search.anew"; GR S (.ref b) (hsh prog w k) b_ fuel none
      | some i'=>if equal then return .there (some i') else GR S (.ref b) (hsh prog w k) b_ fuel (some (advN t (m + 1) (st.getD (t.probeStart (hsh prog w k)))))) Q E s:=by
      rw [hg];dsimp only;refine ge (FX (wpAny_eqBool_tuple hu ta hx ?_));by_cases hkk:k'=k
      · rw [decide_eq_true hkk];refine ge (F5 ho hd hfit ?_);dsimp only;rw [Bool.and_true];simp only [if_true];exact m_ hQ
      have hmN':m < N:=by
       rcases hc with z | z
       · exact absurd z hkk
       · exact z
      rw [decide_eq_false hkk];refine ge (F5 ho hd hfit ?_);dsimp only;rw [Ij];simp only [EZ,if_false];have hsm:t.sameMemory t.moves t.mask=some b_:=by unfold KR; simp
      rw [hsm];dsimp only;rw [if_pos rfl,q1];dsimp only;rw [hg];dsimp only;have hsame:Mt (w_ a) (w_ a)=pure b_:=by
       unfold Mt;dsimp only;rw [if_pos (by simp)]
      rw [hsame];refine ge (ge (m_ (m_ ?_)));rw [if_pos rfl];refine ih (N - (m + 1)) (by omega) fuel (some (advN t (m + 1) (st.getD (t.probeStart (hsh prog w k))))) (fun p hp=>by cases hp; exact Vp.advN (m + 1) v) (by omega) ?_ ?_ (by omega) hQ
      · show t.slot (advN t (N - (m + 1)) (advN t (m + 1) (st.getD (t.probeStart (hsh prog w k))))).j=.live i0;rw [← ci,show m + 1 + (N - (m + 1))=N by omega];exact he
      · intro x hx';show t.slot (advN t x (advN t (m + 1) (st.getD (t.probeStart (hsh prog w k))))).j≠.empty;rw [← ci];exact hn _ (by omega)
     by_cases hled:t.led=b_
     · rw [hled];simp only [Gw,EZ,if_false];exact rest
     · have hled':t.led=c_:=by simpa using hled
       rw [hled'];simp only [Hq,if_true];refine ge (ua hx (fun v hv=>?_) ?_)
       · obtain ⟨e,he',rfl⟩:=Fq.mp hv;have hem:e∈es.toList:=by
          have:=FB.mp he';rw [Mg] at this;exact FB.mpr this.1
         obtain ⟨k2,a2,_,e2,t2⟩:=hE e hem;exact ⟨k2,a2,e2,t2⟩
       · simp only [EZ,if_false];exact rest
   · exact absurd (show (es[i0]?.map (·.1)).getD 0=hsh prog w k by rw [hi0]; rfl) q
def SetD (prog:pi) (w:EO) (h:Fg) (S:k_) (ks:List (List Str)) (n:Nat):Prop :=
 ∃ o es ep t,h.get? S=some o∧o.ExactSet∧o.data=.set es ep t∧es.size=n∧Tb t n∧((t.mask=7∧n≤4)∨(t.mask=31∧n≤18)∨(t.mask=127∧n≤20))∧Ent prog w h ks es.toList∧Rise t.place∧Pa t es∧∀ k∈ks,∃ a,(hsh prog w k,w_ a)∈es.toList∧TK prog w h k a
theorem vC {S b:k_} {ks:List (List Str)} {n:Nat} {k:List Str} {Q:Bool→e_→Prop} (hu:A.units < cLine) (hS:SetD prog w s.heap S ks n) (hx:TK prog w s.heap k b) (hk:k∈ks)
 (h:Q c_ s):C_ (A_ prog w) A (JS S (.ref b) (hsh prog w k)) Q E s:=by
 obtain ⟨o,es,ep,t,ho,hex,hd,hsz,T,hm,hE,R,hP,hA⟩:=hS;have hfit:=fW T;have hfit':t.fits es.size=b_:=by rw [hsz]; exact hfit
 have hodd:t.mask % 2=1:=by rcases hm with ⟨e,_⟩ | ⟨e,_⟩ | ⟨e,_⟩ <;> rw [e]
 obtain ⟨a0,hmem,h0⟩:=hA k hk;obtain ⟨i0,hi0,e0⟩:=Hw hmem;have hi1:i0 < es.size:=by simpa using hi0
 have hge:es[i0]?=some (hsh prog w k,w_ a0):=by
  rw [← FZ,Ff hi0,e0]
 have hpl:i0 < t.place.size:=by rw [T.size,← hsz]; exact hi1
 have hma:(t.place[i0],(hsh prog w k,w_ a0))∈asc t es:=by
  unfold asc;refine Gf (i:=i0) ?_;rw [List.getElem?_zip_eq_some];exact ⟨by simp [hpl],by rw [FZ]; exact hge⟩
 obtain ⟨N,h1,h2,h3⟩:=hP _ hma;have hmk:t.mask≤127:=by rcases hm with ⟨e,_⟩ | ⟨e,_⟩ | ⟨e,_⟩ <;> omega
 unfold JS setAddHashedIn;refine FX (ge (F5 ho hd hfit' ?_));dsimp only;have hbs:byScan (w_ b) es=c_:=by unfold byScan; rfl
 rw [hbs];simp only [EZ,if_false];unfold setSearch;refine ge (mY (ks:=ks) (a0:=a0) (i0:=i0) hu ho hd (by rw [hsz]; exact T) hodd hE hx hge h0 N 100000 none (fun p hp=>by cases hp) (by unfold IA at h1; omega) ?_ ?_ h1 ?_)
 · show t.slot (advN t N (t.probeStart (hsh prog w k))).j=.live i0;rw [lZ,h2];exact jX R (by rw [F4 hpl])
 · intro m hmN;show t.slot (advN t m (t.probeStart (hsh prog w k))).j≠.empty;rw [lZ];exact (la T R).mpr (h3 m hmN)
 · exact m_ h
theorem h8 {n:Nat} (h:n≤20):n≤sizeLine:=by rw [HK]; omega
theorem vD {S b:k_} {ks:List (List Str)} {n:Nat} {k:List Str} {Q:Bool→e_→Prop} (hu:A.units < cLine) (hS:SetD prog w s.heap S ks n) (hx:TK prog w s.heap k b) (hk:k ∉ ks) (hn:n + 1≤20)
 (h:∀ h',IQ S s.heap h'→SetD prog w h' S (k :: ks) (n + 1)→Q b_ { s with heap:=h' }):C_ (A_ prog w) A (JS S (.ref b) (hsh prog w k)) Q E s:=by
 obtain ⟨o,es,ep,t,ho,hex,hd,hsz,T,hm,hE,R,hP,hA⟩:=hS;have hfit:=fW T;have hfit':t.fits es.size=b_:=by rw [hsz]; exact hfit
 have hodd:t.mask % 2=1:=by rcases hm with ⟨e,_⟩ | ⟨e,_⟩ | ⟨e,_⟩ <;> rw [e]
 have hroom:n + 1≤t.mask:=by rcases hm with ⟨e,q⟩ | ⟨e,q⟩ | ⟨e,q⟩ <;> omega
 unfold JS setAddHashedIn;refine FX (ge (F5 ho hd hfit' ?_));dsimp only;have hbs:byScan (w_ b) es=c_:=by unfold byScan; rfl
 rw [hbs];simp only [EZ,if_false];unfold setSearch;obtain ⟨N,h1,h2,h3⟩:=zr T (k6 (t:=t) (hsh prog w k));have hmk:t.mask≤127:=by rcases hm with ⟨e,_⟩ | ⟨e,_⟩ | ⟨e,_⟩ <;> omega
 refine ge (lb (ks:=ks) hu ho hd (by rw [hsz]; exact T) hodd hE hx hk N 100000 none (fun p hp=>by cases hp) (by unfold IA at h1; omega) h2 h3 h1 ?_);dsimp only;refine ge (F5 ho hd hfit' ?_);dsimp only;generalize hjj:(advN t N ((none:Option Probe).getD (t.probeStart (hsh prog w k)))).j=j;have hje:t.slot j=.empty:=by rw [← hjj]; exact h2
 have hjp:pos t.mask (hsh prog w k) N=j:=by rw [← lZ]; exact hjj
 obtain ⟨R2,hpl2,hasc2⟩:=r9 T R hsz hje (hsh prog w k,w_ b);have hway:Pth t.mask (t.put j).1.place.toList (hsh prog w k) j:=⟨N,h1,hjp,fun x hx=>by
  rw [hpl2];refine .inr ((la T R).mp ?_);rw [← lZ];exact h3 x hx⟩
 have hP2:Pa (t.put j).1 (xy es (t.put j).2 (hsh prog w k,w_ b)):=fun je hje'=>by
  rcases (hasc2 je).mp hje' with rfl | hq
  · exact hway
  · exact (hP je hq).mono fun x hx=>(hpl2 x).mpr (.inr hx)
 have hA2:∀ k'∈k :: ks,∃ a,(hsh prog w k',w_ a)∈(xy es (t.put j).2 (hsh prog w k,w_ b)).toList∧TK prog w s.heap k' a:=by
  intro k' hk';have hmm:∀ e,e∈(xy es (t.put j).2 (hsh prog w k,w_ b)).toList↔e∈(es.push (hsh prog w k,w_ b)).toList:=fun e=>(JY es (t.put j).2 (hsh prog w k,w_ b)).mem_iff;rcases q_.mp hk' with rfl | hk'
  · exact ⟨b,(hmm _).mpr (by rw [Jw]; simp),hx⟩
  · obtain ⟨a,q1,q2⟩:=hA k' hk';exact ⟨a,(hmm _).mpr (by rw [Jw]; exact ET _ q1),q2⟩
 obtain ⟨P1,P2,P3,P4,P5⟩:=zt T hroom j;have go:∀ bv:Bool,C_ (A_ prog w) A (do
  storeSet S (xy es (t.put j).2 (hsh prog w k,.ref b)) (if bv then (t.put j).1 else { (t.put j).1 with plain:=c_ })
  if (!c_ && (if bv then (t.put j).1 else { (t.put j).1 with plain:=c_ }).tooFull)=b_ then setRelay S (Jc (es.size + 1))
  return b_) Q E s:=by
  intro bv;have T2:∃ t2,(if bv then (t.put j).1 else { (t.put j).1 with plain:=c_ })=t2∧Tb t2 (n + 1)∧t2.mask=t.mask∧Rise t2.place∧Pa t2 (xy es (t.put j).2 (hsh prog w k,w_ b)):=by
   cases bv with
   | true=>exact ⟨_,rfl,P1,P3,R2,hP2⟩
   | false=>exact ⟨_,rfl,⟨P1.size,P1.dm,P1.cyc,P1.room⟩,P3,R2,hP2⟩
  obtain ⟨t2,e2,T2,M2,R2',hP2'⟩:=T2;rw [e2];have hsz2:(xy es (t.put j).2 (hsh prog w k,w_ b)).size=n + 1:=by
   rw [fJ _ _ _ (by rw [hsz]; exact P2),hsz]
  refine ge (wpAny_storeSet_of ho hd ?_ (by rw [hsz2]; exact h8 hn));have hsb:=KS s.heap S (Jd (xy es (t.put j).2 (hsh prog w k,w_ b)) t2);have hg:=jW (es':=xy es (t.put j).2 (hsh prog w k,w_ b)) (t':=t2) ho hd;have hE2:Ent prog w (s.heap.update S (Jd (xy es (t.put j).2 (hsh prog w k,w_ b)) t2)) (k :: ks) (xy es (t.put j).2 (hsh prog w k,w_ b)).toList:=(hE.insert hx).keeps ho hd hsb;by_cases hf:t2.tooFull=b_
  · rw [hf];simp only [Hq,Bool.and_self,if_true];have hfl:t2.fill * 5 ≥ t2.mask * 3:=by unfold L4 at hf; simpa using hf
    rw [pv T2,M2] at hfl;have h5:∃ m',sizeAbove (Jc (n + 1)) - 1=m'∧mU m'=b_∧n + 1≤m'∧¬ (sizeAbove (Jc (n + 1)) > sizeLine)∧((m'=31∧n + 1≤18)∨(m'=127∧n + 1≤20)):=by
     rcases hm with ⟨e,q⟩ | ⟨e,q⟩ | ⟨e,q⟩
     · rw [e] at hfl;have h4:n=4:=by omega
       subst h4;exact ⟨31,by decide,CG,by omega,by rw [HK]; decide,.inl ⟨rfl,by omega⟩⟩
     · rw [e] at hfl;have h4:n=18:=by omega
       subst h4;exact ⟨127,by decide,zv,by omega,by rw [HK]; decide,.inr ⟨rfl,by omega⟩⟩
     · rw [e] at hfl;omega
    obtain ⟨m',s1,s2,s3,s4,s5⟩:=h5;unfold setRelay;refine ge (ge (F5 hg rfl (by rw [hsz2]; exact fW T2) ?_));dsimp only;rw [hsz];rw [if_neg s4];have hrl:t2.relaid ((xy es (t.put j).2 (hsh prog w k,w_ b)).map (·.1)) (Jc (n + 1))=laid m' t2.finger (t2.movedTo m') t2.led t2.plain ((xy es (t.put j).2 (hsh prog w k,w_ b)).map (·.1)):=by
     unfold SetTable.relaid;rw [s1]
    obtain ⟨t3,order,r1,r2,r3,r4,r5,r6,r7⟩:=vy (finger:=t2.finger) (moves:=t2.movedTo m') (led:=t2.led) (plain:=t2.plain) s2 ((xy es (t.put j).2 (hsh prog w k,w_ b)).map (·.1)) (by rw [MH,hsz2]; omega);rw [hrl,r1];obtain ⟨L1,L2,L3⟩:=pE s2 (xy es (t.put j).2 (hsh prog w k,w_ b)) (by rw [hsz2]; omega) r1;rw [MH,hsz2] at r6 r7;have hperm:(order.filterMap (fun i=>(xy es (t.put j).2 (hsh prog w k,w_ b))[i]?)).toList.Perm (xy es (t.put j).2 (hsh prog w k,w_ b)).toList:=by
     rw [Kb];refine (r7.filterMap _).trans ?_;rw [← hsz2,rW]
    have hsz3:(order.filterMap (fun i=>(xy es (t.put j).2 (hsh prog w k,w_ b))[i]?)).size=n + 1:=by
     rw [← ES,hperm.length_eq,ES,hsz2]
    show C_ (A_ prog w) A ((if ((order.filterMap (fun i=>(xy es (t.put j).2 (hsh prog w k,w_ b))[i]?)).size != (xy es (t.put j).2 (hsh prog w k,w_ b)).size)=b_ then (Jo "internal:set-table-lost-an-element":Sem _) else pure (order.filterMap (fun i=>(xy es (t.put j).2 (hsh prog w k,w_ b))[i]?),t3)) >>= fun x=>storeSet S x.1 x.2) _ _ _;rw [if_neg (by rw [hsz3,hsz2]; simp)];refine ge (m_ ?_);refine wpAny_storeSet_of hg rfl ?_ (by rw [hsz3]; exact h8 hn);have hsb2:=KS (s.heap.update S (Jd (xy es (t.put j).2 (hsh prog w k,w_ b)) t2)) S (Jd (order.filterMap (fun i=>(xy es (t.put j).2 (hsh prog w k,w_ b))[i]?)) t3);refine m_ (h _ (hsb.trans hsb2) ⟨_,_,_,t3,jW hg rfl,hex,rfl,hsz3,r6,(by rw [r2]; exact .inr s5),?_,L1,L3,fun k' hk'=>?_⟩)
    · have hE3:=hE2.keeps hg rfl hsb2;exact fun e he=>hE3 e (hperm.mem_iff.mp he)
    · obtain ⟨a,q1,q2⟩:=hA2 k' hk';exact ⟨a,hperm.mem_iff.mpr q1,(q2.keeps ho hd hsb).keeps hg rfl hsb2⟩
  · have hf':t2.tooFull=c_:=by simpa using hf
    rw [hf'];simp only [Hq,Ij,EZ,if_false];have hfl:¬ (t2.fill * 5 ≥ t2.mask * 3):=by unfold L4 at hf'; simpa using hf'
    rw [pv T2,M2] at hfl;refine m_ (h _ hsb ⟨_,_,_,t2,hg,hex,rfl,hsz2,T2,?_,hE2,R2',hP2',fun k' hk'=>let ⟨a,q1,q2⟩:=hA2 k' hk'; ⟨a,q1,q2.keeps ho hd hsb⟩⟩);rw [M2];rcases hm with ⟨e,q⟩ | ⟨e,q⟩ | ⟨e,q⟩
    · exact .inl ⟨e,by omega⟩
    · exact .inr (.inl ⟨e,by omega⟩)
    · exact .inr (.inr ⟨e,hn⟩)
 cases hpl:(t.put j).1.plain with
 | true =>
  simp only [if_true];refine ge (k7 hx fun bv=>?_);exact go bv
 | false =>
  simp only [EZ,if_false];refine ge (m_ ?_);exact go b_
end
end ST
namespace ST
open PySem PySem.SetTable PyProof.Rows
def mZ {α:Type} [DecidableEq α] (acc:List α) (k:α):List α:=if k∈acc then acc else k :: acc
def ddk {α:Type} [DecidableEq α] (ks:List α):List α:=ks.foldl mZ []
theorem sf {α:Type} [DecidableEq α] (acc:List α) (k:α):(mZ acc k).length≤acc.length + 1:=by unfold mZ; split <;> simp
theorem dF {α:Type} [DecidableEq α]:∀ (ks acc:List α),(ks.foldl mZ acc).length≤acc.length + ks.length
 | [],acc=>p_ _
 | k :: ks,acc=>by
  have h1:=dF ks (mZ acc k);have h2:=sf acc k;rw [Ga,EV];omega
theorem ddk_le {α:Type} [DecidableEq α] (ks:List α):(ddk ks).length≤ks.length:=by
 have:=dF ks [];unfold ddk;simpa using this
theorem gu {α:Type} [DecidableEq α]:∀ (ks acc:List α),(ks.foldl mZ acc).length=acc.length + ks.length↔(ks.Nodup∧∀ k∈ks,k ∉ acc)
 | [],acc=>by simp
 | k :: ks,acc=>by
  rw [Ga,EV];by_cases h:k∈acc
  · have h1:=dF ks acc;have e:mZ acc k=acc:=by unfold mZ; rw [if_pos h]
    rw [e];constructor
    · intro q; omega
    · intro q; exact absurd h (q.2 k g_)
  · have e:mZ acc k=k :: acc:=by unfold mZ; rw [if_neg h]
    have ih:=gu ks (k :: acc);rw [e];rw [EV] at ih;rw [show acc.length + (ks.length + 1)=acc.length + 1 + ks.length by omega,ih,Hc];constructor
    · rintro ⟨h1,h2⟩;refine ⟨⟨fun hm=>h2 k hm g_,h1⟩,fun x hx=>?_⟩;rcases q_.mp hx with rfl | hx
      · exact h
      · exact fun z=>h2 x hx (f_ _ z)
    · rintro ⟨⟨h1,h2⟩,h3⟩;refine ⟨h2,fun x hx z=>?_⟩;rcases q_.mp z with rfl | z
      · exact h1 hx
      · exact h3 x (f_ _ hx) z
theorem ddk_eq {α:Type} [DecidableEq α] (ks:List α):(ddk ks).length=ks.length↔ks.Nodup:=by
 have:=gu ks [];unfold ddk;simpa using this
section
variable {prog:pi} {w:EO} {A:EQ} {R:Ld→e_→Prop} {I:k_} {fp wr:List k_} {G:Array Je→Array Je→Prop} {n:Nat} {P:Nat→d_→Prop} {St:Nat→e_→Prop}
theorem SetD.moved {h h':Fg} {S:k_} {ks:List (List Str)} {n:Nat} (x:SetD prog w h S ks n) (hS:∀ o,h.get? S=some o→h'.get? S=some o) (hm:∀ k a,TK prog w h k a→TK prog w h' k a):SetD prog w h' S ks n:=by
 obtain ⟨o,es,ep,t,ho,hex,hd,hsz,T,hmk,hE,R,hP,hA⟩:=x;exact ⟨o,es,ep,t,hS _ ho,hex,hd,hsz,T,hmk,fun e he=>let ⟨k,a,h1,h2,h3⟩:=hE e he; ⟨k,a,h1,h2,hm k a h3⟩,R,hP,fun k hk=>let ⟨a,q1,q2⟩:=hA k hk; ⟨a,q1,hm k a q2⟩⟩
theorem CL (W:WalksS prog w A.in1 I fp wr G n P St) (S:k_) (hSf:S ∉ fp) (hu:A.in1.units < cLine) (hwr:wr=[I]) (hI:∀ i s,St i s→∃ o vs,s.heap.get? I=some o∧o.data=.fields vs)
 (adr:Nat→k_) (key:Nat→List Str) (hval:∀ i v,P i v→v=.ref (adr i)) (hn:n≤20) :
 ∀ (k i:Nat) (s:e_),n - i=k→i≤n→St i s→(∀ j,j < n→TK prog w s.heap (key j) (adr j)) →
  SetD prog w s.heap S (ddk ((l_ i).map key)) (ddk ((l_ i).map key)).length →
  (∀ s',Moved (S :: wr) G s s'→SetD prog w s'.heap S (ddk ((l_ n).map key)) (ddk ((l_ n).map key)).length→R (.ok (.ret .none)) s') →
  HW (A_ prog w) A (.builtin "set.update.loop" ⟨[.ref S,.ref I],[]⟩) R s:=by
 have hSw:S ∉ wr:=fun h=>hSf (W.sub _ h);have hsub:∀ b∈wr,b∈S :: wr:=fun b hb=>f_ _ hb;have notI:∀ {i:Nat} {s:e_} {k:List Str} {a:k_},St i s→TK prog w s.heap k a→a ∉ wr:=fun {i s k a} hst x hm=>by
  rw [hwr,Fc] at hm;subst hm;obtain ⟨o',items,n,ho',hc,hd',hi⟩:=x;obtain ⟨o,vs,ho,hd⟩:=hI _ _ hst;rw [ho] at ho';cases ho';rw [hd] at hd';cases hd'
 intro k
 induction k with
 | zero =>
  intro i s hk hi hst hT hS hR;have hin:i=n:=by omega
  subst hin;refine IF JM ?_;rw [Kw GX _];show C_ _ A.in1 (pyNext (.ref I) >>= _) _ _ s;refine ge (W.done s _ _ hst fun s' hm=>?_);show C_ _ A.in1 (ret FF) _ _ s';exact m_ (hR s' (hm.mono hsub) (hS.moved (fun o ho=>hm.heap S _ hSw ho) fun k' a x=>x.moved fun o ho=>hm.heap a _ (notI hst x) ho))
 | succ k ih =>
  intro i s hk hi hst hT hS hR;have hlt:i < n:=by omega
  refine IF JM ?_;rw [Kw GX _];show C_ _ A.in1 (pyNext (.ref I) >>= _) _ _ s;refine ge (W.item i s _ _ hlt hst fun v s' hP hst' hm=>?_);have hv:=hval i v hP;subst hv;have hT':∀ j,j < n→TK prog w s'.heap (key j) (adr j):=fun j hj=>(hT j hj).moved fun o ho=>hm.heap _ _ (notI hst (hT j hj)) ho;have hS':SetD prog w s'.heap S (ddk ((l_ i).map key)) (ddk ((l_ i).map key)).length:=hS.moved (fun o ho=>hm.heap S _ hSw ho) fun k' a x=>x.moved fun o ho=>hm.heap a _ (notI hst x) ho;show C_ _ A.in1 (Iw [w_ (adr i)] (setAdd S (.ref (adr i))) >>= _) _ _ s';refine ge (FX ?_);unfold setAdd;refine FX ?_;refine ge (wpAny_pyHash_tuple hu (hT' i hlt) ?_);have estep:ddk ((l_ (i + 1)).map key)=mZ (ddk ((l_ i).map key)) (key i):=by
   unfold ddk;rw [Mn,Gq,Ic];rfl
  have hle:(ddk ((l_ i).map key)).length≤i:=by
   have:=ddk_le ((l_ i).map key);simpa using this
  by_cases hold:key i∈ddk ((l_ i).map key)
  · refine vC (s:={ s' with toks:=s'.toks + ((key i).length + 1) }) hu hS' (hT' i hlt) hold ?_;have hS3:SetD prog w s'.heap S (ddk ((l_ (i + 1)).map key)) (ddk ((l_ (i + 1)).map key)).length:=by
     rw [estep];unfold mZ;rw [if_pos hold];exact hS'
    refine m_ ⟨plainId_quiet GX _,ih (i + 1) _ (by omega) hlt (W.frame _ s' _ _ hst' (by simp) fun b hb o e=>e) hT' hS3 fun s'' hm'' hS''=>?_⟩;exact hR s'' (Moved.trans W.gtrans ((hm.mono hsub).then_heap (by simp) fun b o hb e=>e) hm'') hS''
  · refine vD (s:={ s' with toks:=s'.toks + ((key i).length + 1) }) hu hS' (hT' i hlt) hold (by omega) fun h' hsb hS2=>?_;obtain ⟨oS,esS,epS,tS,hoS,_,hdS,_⟩:=hS';have hS3:SetD prog w h' S (ddk ((l_ (i + 1)).map key)) (ddk ((l_ (i + 1)).map key)).length:=by
     rw [estep];unfold mZ;rw [if_neg hold];exact hS2
    refine m_ ⟨plainId_quiet GX _,ih (i + 1) _ (by omega) hlt (W.frame _ s' _ _ hst' (by simp) fun b hb o e=>?_) (fun j hj=>(hT' j hj).keeps hoS hdS hsb) hS3 fun s'' hm'' hS''=>?_⟩
    · rw [hsb.2 b (fun h:b=S=>hSf (by rw [← h]; exact hb))]; exact e
    · refine hR s'' (Moved.trans W.gtrans ((hm.mono hsub).then_heap (by simp) fun b o hb e=>?_) hm'') hS'';rw [hsb.2 b (fun h:b=S=>hb (by rw [h]; exact g_))]; exact e
end
section
variable {prog:pi} {w:EO} {A:EQ} {E:d_→e_→Prop} {s:e_}
theorem sg {h:Fg} {S:k_} {led:Bool} (e:h.get? S=some (mV led)):SetD prog w h S [] 0 :=
 ⟨_,#[],0,_,e,⟨rfl,rfl,rfl⟩,rfl,rfl,⟨rfl,rfl,Er,F7 _⟩,.inl ⟨rfl,by omega⟩,fun e he=>by simp at he,Ii,fun je hje=>(by simp [asc,SetTable.fresh] at hje),fun k hk=>(by simp at hk)⟩
theorem zx {led:Bool} {l:k_} {items:Array d_} {key:Nat→List Str} {adr:Nat→k_} {R:Ld→e_→Prop} (hh:A.handled=none) (hu:A.units + 8 < cLine) (hl:s.heap.IsList l items)
 (hk:∀ i,i < items.size→items[i]?=some (.ref (adr i))∧TK prog w s.heap (key i) (adr i)) (hn:items.size≤20)
 (hR:∀ (h':Fg) (tk:Nat),SetD prog w h' s.heap.objs.size (ddk ((l_ items.size).map key)) (ddk ((l_ items.size).map key)).length→(∀ b o,b < s.heap.objs.size→s.heap.get? b=some o→h'.get? b=some o)→R (.ok (.ret .none)) { s with heap:=h',toks:=tk }) :
 HW (A_ prog w) A (.call (.builtin "set.__init__") ⟨[.ref s.heap.objs.size,.ref l],[]⟩) R { s with heap:=s.heap.push (mV led) }:=by
 have hS:(s.heap.push (mV led)).get? s.heap.objs.size=some (mV led):=EY _ rfl;have hT:MK { s with heap:=s.heap.push (mV led) } (.ref s.heap.objs.size) "set":=⟨_,hS,rfl⟩;refine Iz G8.init.plain F.entry_set_init (check_set_init_1 hT ?_);obtain ⟨ol,hol,hcl,nl,hdl⟩:=hl;obtain ⟨ocls,odict,odata,oslots⟩:=ol;simp only at hcl hdl;subst hcl; subst hdl;have hol':(s.heap.push (mV led)).get? l=some { cls:=.type "list",dict:=odict,data:=.seq items nl,slots:=oslots }:=on _ hol;have s1:=F.sub_list_set;have s2:=F.sub_list_frozenset;have s3:(Fb "list" == Fb "dict")=c_:=by decide
 have hl1:(s.heap.push (mV led)).IsList l items:=⟨_,hol',rfl,nl,rfl⟩;unfold IR.«set.__init__» noKeywords Mm;generalize hPI:pyIter=PI
 wp_walk
 subst hPI;refine HU hl1 (ge (wpAny_runValue ?_));have hlS:l < s.heap.objs.size:=B_ hol;have hneI:l≠(s.heap.push (mV led)).objs.size:=by rw [Gz]; exact Fy (LO hlS)
 have hSf:s.heap.objs.size ∉ [(s.heap.push (mV led)).objs.size,l]:=by
  rw [Gz];simp only [q_,Fi,or_false,not_or];exact ⟨Fy (L_ _),Nat.ne_of_gt hlS⟩
 have up:∀ {k:List Str} {a:k_},TK prog w s.heap k a→TK prog w ((s.heap.push (mV led)).push { cls:=.type "list_iterator",data:=.fields #[.ref l,.int 0 0] }) k a:=fun x=>x.moved fun o e=>on _ (on _ e);refine CL ((Walks.list (by simp [hh]) _ l hneI items).toS) s.heap.objs.size hSf (by show A.units + 1 + 1 < cLine; omega) rfl (fun i s' st=>by
  obtain ⟨⟨o,ho,_,hd⟩,_⟩:=st;exact ⟨o,_,ho,hd⟩) adr key (fun i v hv=>?_) hn (items.size - 0) 0 _ (by omega) (F7 _) ⟨⟨_,EY _ rfl,rfl,rfl⟩,(hl1.push _)⟩ (fun j hj=>up (hk j hj).2) ?_ ?_
 · have hi:i < items.size:=(F0.mp hv).1;have:=(hk i hi).1;rw [this] at hv;exact (Fj hv).symm
 · exact sg (led:=led) (on _ hS)
 · intro s' hm hS';obtain ⟨h',g',d',tk',os'⟩:=s';have eg:g'=s.gens:=hm.gens;have ed:d'=s.drawn:=hm.drawn;have eo:os'=s.os:=hm.os;subst eg; subst ed; subst eo;show C_ _ _ _ _ _ _;refine m_ ?_;show C_ _ _ (ret FF) _ _ _;refine m_ (hR h' tk' hS' fun b o hb e=>?_);have hb1:b≠s.heap.objs.size:=Fy hb;have hb2:b≠(s.heap.push (mV led)).objs.size:=by rw [Gz]; exact Fy (LO hb)
   exact hm.heap b o (by simp only [q_,Fi,or_false,not_or]; exact ⟨hb1,hb2⟩) (on _ (on _ e))
theorem call_set_U {l:k_} {items:Array d_} {key:Nat→List Str} {adr:Nat→k_} {Q:d_→e_→Prop} (hh:A.handled=none) (hu:A.units + 16 < cLine) (hl:s.heap.IsList l items)
 (hk:∀ i,i < items.size→items[i]?=some (.ref (adr i))∧TK prog w s.heap (key i) (adr i)) (hn:items.size≤20)
 (h:∀ (h':Fg) (tk:Nat),SetD prog w h' s.heap.objs.size (ddk ((l_ items.size).map key)) (ddk ((l_ items.size).map key)).length→(∀ b o,b < s.heap.objs.size→s.heap.get? b=some o→h'.get? b=some o)→Q (.ref s.heap.objs.size) { s with heap:=h',toks:=tk }) :
 C_ (A_ prog w) A (call (.type "set") [.ref l]) Q E s:=by
 obtain ⟨c,tl,hmro⟩:=G8.mro;have hmade:=G8.made;have hsub:=G8.sub;refine K7 (codeAny_of_tree ?_);show C_ _ _ (callAny (.type "set") _) _ _ _;refine m_ ⟨Lg _ (by decide +kernel),IF F.entry_type_call ?_⟩;rw [Around.under_plain (weight_type_call_type "set" [.ref l] []) rfl];have h1:=G8.notType;have h2:=G8.canCreate;have hct:=F.typeCall_set_1 (.ref l)
 repeat (any_goals (first | assumption | wp_step))
 refine IM (code_set_new_1 (.ref l) (E:=E) (Q₁:=fun obj s₁=>∃ led:Bool,obj=.ref s.heap.objs.size∧s₁={ s with heap:=s.heap.push (mV led) }) fun led=>⟨led,rfl,rfl⟩) fun r s₁ hr=>?_;cases r with
 | error e=>exact hr
 | ok fl =>
  cases fl with
  | ret obj =>
   obtain ⟨led,rfl,rfl⟩:=hr;have hT:MK { s with heap:=s.heap.push (mV led) } (.ref s.heap.objs.size) "set":=⟨_,EY _ rfl,rfl⟩;have hli:=G8.init.lookup;have hbi:=G8.init.bind (.ref s.heap.objs.size)
   repeat (any_goals (first | assumption | wp_step))
   refine IM (zx (R:=wants (fun r s₂=>r=.none∧∃ h' tk,s₂={ s with heap:=h',toks:=tk }∧SetD prog w h' s.heap.objs.size (ddk ((l_ items.size).map key)) (ddk ((l_ items.size).map key)).length ∧
    (∀ b o,b < s.heap.objs.size→s.heap.get? b=some o→h'.get? b=some o)) E) (by simp [hh]) (by show A.units + 1 + 8 < cLine; omega) hl hk hn fun h' tk q1 q2=>⟨rfl,h',tk,rfl,q1,q2⟩) fun r₂ s₂ hr₂=>?_
   cases r₂ with
   | error e=>exact hr₂
   | ok fl₂ =>
    cases fl₂ with
    | ret r =>
     obtain ⟨rfl,h',tk,rfl,hS',hk'⟩:=hr₂
     repeat (any_goals (first | assumption | wp_step))
     exact h _ _ hS' hk'
    | _=>exact hr₂.elim
  | _=>exact hr.elim
theorem len_U {S:k_} {ks:List (List Str)} {n:Nat} {Q:d_→e_→Prop} (hS:SetD prog w s.heap S ks n) (hn:n≤20) (h:∀ t tk,Q (.int n t) { s with toks:=tk }):C_ (A_ prog w) A (call (.builtin "len") [.ref S]) Q E s:=by
 obtain ⟨o,es,ep,t,ho,hex,hd,hsz,T,hm,hE,_⟩:=hS;subst hsz;exact call_len_set ho hex hd (fW T) (Int.lt_of_le_of_lt (show ((es.size:Nat):Int)≤20 by omega) (by decide)) (h _ _)
end
end ST
namespace FD
open PySem PySem.Spec PyProof.Rows L2
def ib:List Dv→Option (Rs Dv)
 | [.lst ds]=>match hZ ds with
  | some ks=>if ks.length≤20 then some (.ok (.int (ST.ddk ks).length)) else none
  | none=>none
 | _=>none
theorem m5 {α:Type} (ks:List α) (d:α) (n:Nat) (h:n=ks.length):(l_ n).map (fun i=>ks.getD i d)=ks:=by
 subst h;apply Ig;intro i;by_cases hi:i < ks.length
 · simp [hi]
 · simp [hi]
section
variable {X:Cx} {p p2 pos pos2:Pos} {e:D_} {ga:FnA}
theorem m7 (hu:X.A.units + 64 < cLine) (hc:X.calm=b_) (hg:Gl X "len") (hm:X.mg "len"=none) (hg2:Gl X "set") (hm2:X.mg "set"=none) (ha:FA X [e] ga)
 (he:j_ [.Call (.Name "set" p2) [e] [] pos2] X.env=(c_,eval (.Call (.Name "set" p2) [e] [] pos2) X.env) :: j_ [] X.env:=by kernel_rfl) (hpl:(FV pos (j_ [] X.env)).any (·.1)=c_:=by kernel_rfl)
 (he2:j_ [e] X.env=(c_,eval e X.env) :: j_ [] X.env:=by kernel_rfl) (hpl2:(FV pos2 (j_ [] X.env)).any (·.1)=c_:=by kernel_rfl) :
 FE X (.Call (.Name "len" p) [.Call (.Name "set" p2) [e] [] pos2] [] pos) (fB1 ib ga):=⟨fun f' s σ H Q I ⟨ρ,E,o⟩=>by
 refine G5 (gO I hg hm Mv ?_ (by decide) (by decide));refine Iu ?_ he hpl;rw [he];show C_ _ _ (spliced ((c_,eval (.Call (.Name "set" p2) [e] [] pos2) X.env) :: FV pos (j_ [] X.env))) _ _ s;refine Lh ?_;refine G5 (gO I hg2 hm2 (u:=.type "set") (by decide +kernel) ?_ (by decide) (by decide));refine GG (thn (ha.h pos2 f' s σ H _ I ⟨ρ,E,OutA.bind o fun ds vs H1 e1 rs o1=>(show ∃ ds,Reps X.K H1 ds vs∧Out X H1 (ib ds) Q from ⟨ds,rs,o1⟩)⟩) fun us s1 ⟨vs,H1,I1,r1,ds,rs,o1⟩=>?_) he2 hpl2;unfold ib at o1;split at o1
 · rename_i es;obtain ⟨v,rfl,r⟩:=eJ rs;obtain ⟨l,xs,rfl,hl,rx⟩:=r.lstE;obtain ⟨u,rfl,ru⟩:=gw r1;cases (show u=w_ l from ru);split at o1
   · rename_i ks hks;split at o1
     · rename_i hnd;obtain ⟨z,its,n,rv,hz,eh⟩:=I1.lstM hl;obtain ⟨q1,q2⟩:=pA I1 hks rx rv;have hsz:its.toArray.size=ks.length:=by simp [q1]
       refine ST.call_set_U (items:=its.toArray) (key:=fun i=>ks.getD i []) (adr:=fun i=>match its[i]? with | some (.ref a)=>a | _=>0) (I1.ok.hd hc) (by omega) ⟨_,eh,rfl,n,rfl⟩ (fun i hi=>?_) (by rw [hsz]; exact hnd) fun h' tk hS hkp=>?_
       · obtain ⟨a,e1,e2⟩:=q2 i (by simpa using hi);simp only [Kn,e1];exact ⟨trivial,e2⟩
       · refine LC ?_;rw [m5 ks [] _ hsz] at hS;refine ST.len_U hS (EW (ST.ddk_le ks) hnd) fun t tk2=>⟨.int ((ST.ddk ks).length:Nat),H1,?_,⟨t,rfl⟩,o1 _ H1 (.refl H1) rfl⟩;exact I1.kept (t':=tk2) fun b u q=>hkp b u (B_ q) q
     · exact o1.elim
   · exact o1.elim
 · exact o1.elim⟩
end
section
variable {prog:pi} {w:EO} {A:EQ} {E:d_→e_→Prop} {s:e_}
end
section
variable {prog:pi} {w:EO} {A:EQ} {E:d_→e_→Prop} {s:e_}
end
def tC (X:Cx) (i:Nat) (fc:FnE):TS:=fun D σ H=>∃ ρ,Envs X.K H σ ρ∧match fc ρ with
 | none=>False
 | some (.exc c)=>XW X c H
 | some (.ok d)=>∃ ys,d=.lst ys∧∀ H5 p vs,Same H H5→H5 p=none→Reps X.K H5 ys vs→D.nx (σ.set i (some (.ref p))) (upd H5 p (.lst vs))
def pF (i:Nat) (fc:FnE) (f:dD):FnS:=fun ρ=>fr (fc ρ) fun d=>match d with
 | .lst ds=>(match f (ρ.set i none) ds with
  | some (.nx ρ' ds')=>some (.nx (ρ'.set i (some (.lst ds'))))
  | some (.rt d)=>some (.rt d)
  | none=>none)
 | _=>none
section
variable {X:Cx} {i:Nat} {st:F_} {sts:List F_} {f:dD} {fc:FnE}
theorem sh {x:Str} (hi:X.N[i]?=some x) (h1:PS X st (tC X i fc)) (hr:FOs X i sts f):FSs X (st :: sts) (pF i fc f):=⟨fun f' s σ H D I ⟨ρ,E,o⟩=>by
 refine gF h1 hr.h f' s σ H D I ⟨ρ,E,?_⟩;unfold pF at o
 match hgr:fc ρ with
 | none=>rw [hgr] at o; exact o.elim
 | some (.exc _)=>rw [hgr] at o; exact o
 | some (.ok d) =>
  rw [hgr] at o;cases d with
  | lst ds =>
   have o2:OutS X H (match f (ρ.set i none) ds with
    | some (.nx ρ' ds')=>some (.nx (ρ'.set i (some (.lst ds'))))
    | some (.rt d)=>some (.rt d)
    | none=>none) D:=o
   refine ⟨ds,rfl,fun H1 p vs e1 hp rs=>?_⟩;have hil:i < σ.length:=by rw [I.len]; exact (E_.mp hi).1
   refine ⟨H1,p,vs,ρ.set i none,ds,rfl,hp,E7 hil,?_,rs,?_⟩
   · have E1:=(E.mono e1).fgt1 i;refine ⟨by rw [Fu]; exact E1.len,fun j d hj=>?_⟩;by_cases hij:i=j
     · subst hij;by_cases hl2:i < ρ.length
       · rw [E7 hl2] at hj; cases hj
       · rw [FY (by rw [Fu]; omega)] at hj; cases hj
     · obtain ⟨v,q1,q2⟩:=E1.at' j d hj;exact ⟨v,by rw [EU hij]; exact q1,q2⟩
   · match hfr:f (ρ.set i none) ds with
     | none=>rw [hfr] at o2; exact o2.elim
     | some (.rt d)=>rw [hfr] at o2; exact fun v H' e' r'=>o2 v H' (e1.trans e') r'
     | some (.nx ρ' ds') =>
      rw [hfr] at o2;exact fun σ' H' xs' e' ha' hi' E' r'=>o2 σ' _ ((e1.trans e').trans (cq ha')) (dY ha' hi' E' r')
  | _=>exact (show False from o).elim⟩
theorem pG {n:Nat} {cs:List (Str×Nat)} {src:FnA} {b:Dv→Ev→Option Ev} {tst:Option FnB} {fe:FnE} (ρ:Ev) (d:Dv) (h:cK n cs src b tst fe ρ=some (.ok d)):∃ ys,d=.lst ys:=by
 rcases Cj h with ⟨c,e1,e2⟩ | ⟨ds,ys,e1,e2,l1,l2,e3⟩
 · cases e2
 · cases e3; exact ⟨ys,rfl⟩
end
section
variable {X:Cx} {f':List (k_×Obj)} {σ:L2.St} {H:Hp} {s:e_}
theorem fD:∀ {its:List d_} {ns:List Int},LG its ns→Vals (ns.map V.int) its
 | _,_,.nil=>.nil
 | _,_,.cons n t h=>.cons ⟨t,rfl⟩ (fD h)
end
section
variable {X:Cx} {p pos:Pos} {e:D_} {es:List D_} {ga:FnA}
end
section
variable {X:Cx} {p pos:Pos} {e:D_} {es:List D_} {ga:FnA}
end
section
variable {X:Cx} {p pos:Pos} {e:D_} {es:List D_} {ga:FnA}
end
section
variable {prog:pi} {w:EO} {A:EQ} {E:d_→e_→Prop} {s:e_}
end
section
variable {prog:pi} {w:EO} {A:EQ} {E:d_→e_→Prop} {s:e_}
end
theorem ud {tst:Option FnB} {elt:FnE} {cap:Ev}:∀ ds:List Dv,oF tst elt cap ds=jQ (gN 0) tst elt cap ds
 | []=>rfl
 | d :: ds=>by
  unfold oF jQ;rw [ud ds];rfl
theorem vE (cs:List (Str×Nat)) (src:FnA) (tst:Option FnB) (fe:FnE):cz cs src tst fe=cK 1 cs src (gN 0) tst fe:=by
 funext ρ;show bnd (src ρ) _=bnd (src ρ) _;congr 1;funext ds;rw [ud];rfl
theorem vF {X:Cx} {st:F_} {i:Nat} {fc:FnE} (h:PS X st (tC X i fc)) (hl:∀ ρ d,fc ρ=some (.ok d)→∃ ys,d=.lst ys):FS X st (bn i fc):=⟨fun f' s σ H D I ⟨ρ,E,o⟩=>by
 refine h f' s σ H D I ⟨ρ,E,?_⟩;unfold bn at o
 match hf:fc ρ with
 | none=>rw [hf] at o; exact o.elim
 | some (.exc c)=>rw [hf] at o; exact o
 | some (.ok d) =>
  rw [hf] at o;obtain ⟨ys,rfl⟩:=hl ρ d hf;exact ⟨ys,rfl,fun H5 p vs e5 hp rs=>o _ _ (e5.trans (aA hp _)) ((E.mono (e5.trans (aA hp _))).set ⟨p,vs,rfl,ar,Reps.mono (aA hp _) _ _ rs⟩)⟩⟩
end FD
namespace ST
open PySem PySem.SetTable PyProof.Rows
def SetS (prog:pi) (w:EO) (h:Fg) (S:k_) (ks:List Str):Prop :=
 ∃ o es ep t,h.get? S=some o∧o.ExactSet∧o.data=.set es ep t∧t.fits es.size=b_∧ks.length≤60∧t.led=(!byT w)∧(es.size≠0→t.plain=c_)∧ElemsOf (PySem.strKind prog w) es.toList∧(∀ e∈es.toList,∃ x t,e.2=.str x t)∧(es.toList.map fun e=>strOf e.2).Perm ks
section
variable {prog:pi} {w:EO} {A:EQ} {E:d_→e_→Prop} {s:e_}
end
section
variable {prog:pi} {w:EO} {A:EQ} {R:Ld→e_→Prop} {I:k_} {fp wr:List k_} {G:Array Je→Array Je→Prop} {n:Nat} {P:Nat→d_→Prop} {St:Nat→e_→Prop}
theorem SetS.moved {h h':Fg} {S:k_} {ks:List Str} (x:SetS prog w h S ks) (hS:∀ o,h.get? S=some o→h'.get? S=some o):SetS prog w h' S ks:=by
 obtain ⟨o,es,ep,t,ho,r⟩:=x;exact ⟨o,es,ep,t,hS _ ho,r⟩
end
section
variable {prog:pi} {w:EO} {A:EQ} {E:d_→e_→Prop} {s:e_}
end
section
variable {prog:pi} {w:EO} {A:EQ} {E:d_→e_→Prop}
variable {s:e_}
structure Rd (w:EO) (h:Fg) (S:k_) (es:Array (Int×d_)) (ep:Nat) (t:SetTable):Prop where
 o:∃ o,h.get? S=some o∧o.ExactSet∧o.data=.set es ep t
 f:t.fits es.size=b_
 l:t.led=(!byT w)
 p:es.size≠0→t.plain=c_
theorem Rd.moved {h h':Fg} {S:k_} {es:Array (Int×d_)} {ep:Nat} {t:SetTable} (r:Rd w h S es ep t) (k:∀ o,h.get? S=some o→h'.get? S=some o):Rd w h' S es ep t:=by
 obtain ⟨⟨o,ho,hr⟩,h1,h2,h3⟩:=r;exact ⟨⟨o,k _ ho,hr⟩,h1,h2,h3⟩
end
section
variable {prog:pi} {w:EO} {A:EQ} {E:d_→e_→Prop} {s:e_}
structure Wk (prog:pi) (w:EO) (S I:k_) (h:Fg) (h':Fg) (es:Array (Int×d_)) (vs:List d_) (fp:List k_) (St:Nat→Fg→Prop):Prop where
 W:∀ A:EQ,A.handled=none→Walks prog w A I fp [I] vs.length (fun i v=>vs[i]?=some v) St
 st:St 0 h'
 pm:vs.Perm (es.toList.map (·.2))
 up:∀ b o,h.get? b=some o→h'.get? b=some o
 nw:h.objs.size≤I
 fp:∀ b∈fp,(b=S∨h.objs.size≤b)∧b < h'.objs.size
end
section
variable {prog:pi} {w:EO} {A:EQ} {E:d_→e_→Prop} {s:e_}
theorem SetS.rd {h:Fg} {S:k_} {ks:List Str} (x:SetS prog w h S ks):∃ es ep t,Rd w h S es ep t∧es.size≤60∧(∀ e∈es.toList,∃ x t,e.2=.str x t)∧(es.toList.map fun e=>strOf e.2).Perm ks:=by
 obtain ⟨o,es,ep,t,ho,hex,hd,hf,hk,hl,hp,hel,hs,hm⟩:=x;refine ⟨es,ep,t,⟨⟨o,ho,hex,hd⟩,hf,hl,hp⟩,?_,hs,hm⟩;have:=hm.length_eq;simp at this;omega
end
end ST
namespace FD
open PySem PySem.Spec PyProof.Rows L2
section
variable {X:Cx} {p p2 pos pos2:Pos} {e:D_} {ga:FnA}
end
def xl (i:Nat) (f:FnS):dD:=fun ρ ds=>match f (ρ.set i (some (.lst ds))) with
 | some (.rt d)=>some (.rt d)
 | _=>none
theorem vG {X:Cx} {i:Nat} {sts:List F_} {f:FnS} (h:FSs X sts f):FOs X i sts (xl i f):=⟨fun f' s σ Hf D I ⟨H,a,xs,ρ,ds,e1,ha',hia,E,r,o⟩=>by
 subst e1;refine h.h f' s σ _ D I ⟨_,dY ha' hia E r,?_⟩;unfold xl at o
 match hg:f (ρ.set i (some (.lst ds))) with
 | none=>rw [hg] at o; exact o.elim
 | some (.exc _)=>rw [hg] at o; exact o.elim
 | some (.nx _)=>rw [hg] at o; exact o.elim
 | some (.rt d)=>rw [hg] at o; exact fun v H2 e2 rd=>o v H2 ((cq ha').trans e2) rd⟩
end FD
namespace TS
open PySem PyProof.Rows
section logic
variable {M:K4} {A:EQ} {E:d_→e_→Prop} {J:e_→Prop} {σ α β:Type}
end logic
structure Od (blt:Nat→Nat→Bool):Prop where
 ir:∀ a,blt a a=c_
 tr:∀ a b c,blt a b=b_→blt b c=b_→blt a c=b_
 nt:∀ a b c,blt a c=b_→blt a b=b_∨blt b c=b_
def Lex (blt:Nat→Nat→Bool) (a b:Nat):Prop:=blt a b=b_∨(blt b a=c_∧a < b)
section order
variable {blt:Nat→Nat→Bool}
theorem Od.le (O:Od blt) {a b c:Nat} (h1:blt b a=c_) (h2:blt c b=c_):blt c a=c_:=by
 cases h:blt c a with
 | false=>rfl
 | true =>
  rcases O.nt _ b _ h with q | q
  · rw [q] at h2; cases h2
  · rw [q] at h1; cases h1
theorem Od.lt_le (O:Od blt) {a b c:Nat} (h1:blt a b=b_) (h2:blt c b=c_):blt a c=b_:=by
 rcases O.nt _ c _ h1 with q | q
 · exact q
 · rw [q] at h2; cases h2
theorem Od.le_lt (O:Od blt) {a b c:Nat} (h1:blt b a=c_) (h2:blt b c=b_):blt a c=b_:=by
 rcases O.nt _ a _ h2 with q | q
 · rw [q] at h1; cases h1
 · exact q
theorem Od.as (O:Od blt) {a b:Nat} (h:blt a b=b_):blt b a=c_:=by
 cases h':blt b a with
 | false=>rfl
 | true=>have:=O.tr _ _ _ h h'; rw [O.ir] at this; cases this
theorem Lex.tr (O:Od blt) {a b c:Nat} (h1:Lex blt a b) (h2:Lex blt b c):Lex blt a c:=by
 rcases h1 with h1 | ⟨h1,i1⟩
 · rcases h2 with h2 | ⟨h2,i2⟩
   · exact .inl (O.tr _ _ _ h1 h2)
   · exact .inl (O.lt_le h1 h2)
 · rcases h2 with h2 | ⟨h2,i2⟩
   · exact .inl (O.le_lt h1 h2)
   · exact .inr ⟨O.le h1 h2,by omega⟩
theorem Lex.of_le {a b:Nat} (h:blt b a=c_) (i:a < b):Lex blt a b:=.inr ⟨h,i⟩
end order
structure SB (a₀:Array MO) (kd:LF) (p:Nat→Nat) (st:SortSt):Prop where
 sz:(arrOf st).size=a₀.size
 at':∀ k,k < a₀.size→(arrOf st)[k]?=a₀[p k]?
 lt:∀ k,k < a₀.size→p k < a₀.size
 inj:∀ a b,a < a₀.size→b < a₀.size→p a=p b→a=b
 kind:kindOf st=kd
 failed:failedOf st=none
 pend:L8 st=#[]
def mir (p:Nat→Nat) (i j k:Nat):Nat:=if i≤k∧k < j then p (i + j - 1 - k) else p k
section state
variable {a₀:Array MO} {kd:LF} {p:Nat→Nat} {st:SortSt}
end state
section
variable {M:K4} {A:EQ} {E:d_→e_→Prop} {J:e_→Prop} {a₀:Array MO} {kd:LF} {blt:Nat→Nat→Bool} {p:Nat→Nat} {st:SortSt}
structure Up (blt:Nat→Nat→Bool) (p:Nat→Nat) (n N:Nat):Prop where
 so:∀ a b,a < b→b < n→Lex blt (p a) (p b)
 lo:∀ a,a < n→p a < n
 re:∀ a,n≤a→a < N→p a=a
theorem Up.next (O:Od blt) {n N:Nat} (U:Up blt p n N) (h1:1≤n) (hn:n < N) (h:blt (p n) (p (n - 1))=c_):Up blt p (n + 1) N where
 so:=fun a b hab hb=>by
  by_cases hbn:b < n
  · exact U.so a b hab hbn
  · have hb':b=n:=by omega
    subst hb';have last:Lex blt (p (b - 1)) (p b):=.of_le h (by rw [U.re b (p_ _) hn]; exact U.lo _ (by omega));by_cases ha:a=b - 1
    · subst ha; exact last
    · exact (U.so a (b - 1) (by omega) (by omega)).tr O last
 lo:=fun a ha=>by
  by_cases han:a < n
  · have:=U.lo a han; omega
  · have:a=n:=by omega
    subst this;rw [U.re a (p_ _) hn];omega
 re:=fun a ha hN=>U.re a (by omega) hN
structure Dn (blt:Nat→Nat→Bool) (p:Nat→Nat) (n N:Nat):Prop where
 so:∀ a b,a < b→b < n→Lex blt (p b) (p a)
 lo:∀ a,a < n→p a < n
 re:∀ a,n≤a→a < N→p a=a
structure Dq (blt:Nat→Nat→Bool) (p:Nat→Nat) (c n N:Nat):Prop where
 cn:c < n
 d1:∀ a b,a < b→b < c→Lex blt (p b) (p a)
 d2:∀ a b,a < c→c≤b→b < n→blt (p b) (p a)=b_
 d3:∀ a b,c≤a→a < b→b < n→blt (p a) (p b)=c_∧blt (p b) (p a)=c_∧p a < p b
 lo:∀ a,a < n→p a < n
 re:∀ a,n≤a→a < N→p a=a
theorem Dq.turn {c n N:Nat} (D:Dq blt p c n N):Dn blt (mir p c n) n N where
 so:=fun a b hab hb=>by
  unfold mir;by_cases hbc:c≤b
  · rw [if_pos ⟨hbc,hb⟩];by_cases hac:c≤a
    · rw [if_pos ⟨hac,by omega⟩];have:=D.d3 (c + n - 1 - b) (c + n - 1 - a) (by omega) (by omega) (by omega);exact .inr ⟨this.2.1,this.2.2⟩
    · rw [if_neg (by omega)];exact .inl (D.d2 a _ (by omega) (by omega) (by omega))
  · rw [if_neg (by omega),if_neg (by omega)];exact D.d1 a b hab (by omega)
 lo:=fun a ha=>by
  unfold mir;split
  · exact D.lo _ (by omega)
  · exact D.lo _ ha
 re:=fun a ha hN=>by
  unfold mir;rw [if_neg (by omega)];exact D.re a ha hN
theorem Dq.one {n N:Nat} (D:Dq blt p (n - 1) n N):Dn blt p n N where
 so:=fun a b hab hb=>by
  by_cases hbc:b < n - 1
  · exact D.d1 a b hab hbc
  · exact .inl (D.d2 a b (by omega) (by omega) hb)
 lo:=D.lo
 re:=D.re
theorem Dn.turn {n N:Nat} (D:Dn blt p n N):Up blt (mir p 0 n) n N where
 so:=fun a b hab hb=>by
  unfold mir;rw [if_pos ⟨F7 _,by omega⟩,if_pos ⟨F7 _,hb⟩];exact D.so _ _ (by omega) (by omega)
 lo:=fun a ha=>by
  unfold mir;rw [if_pos ⟨F7 _,ha⟩];exact D.lo _ (by omega)
 re:=fun a ha hN=>by
  unfold mir;rw [if_neg (by omega)];exact D.re a ha hN
theorem Dn.next (O:Od blt) {n N:Nat} (D:Dn blt p n N) (h1:1≤n) (hn:n < N) (h:blt (p n) (p (n - 1))=b_):Dq blt p n (n + 1) N where
 cn:=by omega
 d1:=D.so
 d2:=fun a b ha hb hb'=>by
  have:b=n:=by omega
  subst this;by_cases e:a=b - 1
  · subst e; exact h
  · rcases D.so a (b - 1) (by omega) (by omega) with q | ⟨q,_⟩
    · exact O.tr _ _ _ h q
    · exact O.lt_le h q
 d3:=fun a b ha hab hb=>by omega
 lo:=fun a ha=>by
  by_cases han:a < n
  · have:=D.lo a han; omega
  · have:a=n:=by omega
    subst this;rw [D.re a (p_ _) hn];omega
 re:=fun a ha hN=>D.re a (by omega) hN
theorem Dq.next (O:Od blt) {c n N:Nat} (D:Dq blt p c n N) (hn:n < N) (h1:blt (p n) (p (n - 1))=c_) (h2:blt (p (n - 1)) (p n)=c_):Dq blt p c (n + 1) N where
 cn:=by have:=D.cn; omega
 d1:=D.d1
 d2:=fun a b ha hb hb'=>by
  by_cases hbn:b < n
  · exact D.d2 a b ha hb hbn
  · have:b=n:=by omega
    subst this;exact O.le_lt h2 (D.d2 a (b - 1) ha (by have:=D.cn; omega) (by omega))
 d3:=fun a b ha hab hb=>by
  by_cases hbn:b < n
  · exact D.d3 a b ha hab hbn
  · have:b=n:=by omega
    subst this;have hlt:p a < p b:=by
     have:=D.lo a (by omega);rw [D.re b (p_ _) hn];exact this
    by_cases e:a=b - 1
    · subst e; exact ⟨h2,h1,hlt⟩
    · obtain ⟨q1,q2,_⟩:=D.d3 a (b - 1) ha (by omega) (by omega);exact ⟨O.le h2 q1,O.le q2 h1,hlt⟩
 lo:=fun a ha=>by
  by_cases han:a < n
  · have:=D.lo a han; omega
  · have:a=n:=by omega
    subst this;rw [D.re a (p_ _) hn];omega
 re:=fun a ha hN=>D.re a (by omega) hN
end
section
variable {M:K4} {A:EQ} {E:d_→e_→Prop} {J:e_→Prop} {a₀:Array MO} {kd:LF} {blt:Nat→Nat→Bool} {p:Nat→Nat} {st:SortSt}
structure Es (a₀:Array MO) (blt:Nat→Nat→Bool) (p:Nat→Nat) (xs:Array MO):Prop where
 sz:xs.size=a₀.size
 at':∀ k,k < a₀.size→xs[k]?=a₀[p k]?
 lt:∀ k,k < a₀.size→p k < a₀.size
 inj:∀ a b,a < a₀.size→b < a₀.size→p a=p b→a=b
 so:∀ a b,a < b→b < a₀.size→Lex blt (p a) (p b)
def Dne (a₀:Array MO) (blt:Nat→Nat→Bool) (st:SortSt):Prop:=∃ p,Es a₀ blt p (arrOf st)∧failedOf st=none∧L8 st=#[(0,a₀.size,0)]
theorem SB.done (B:SB a₀ kd p st) (U:Up blt p a₀.size a₀.size):Dne a₀ blt (setPending st ((L8 st).push (0,a₀.size,0))) :=
 ⟨p,⟨B.sz,B.at',B.lt,B.inj,U.so⟩,B.failed,by show (L8 st).push _=_; rw [B.pend]; rfl⟩
end
section
variable {prog:pi} {w:EO} {A:EQ} {E:d_→e_→Prop} {s:e_} {blt:Nat→Nat→Bool} {Kd:LF→Prop}
end
end TS
namespace TS
open PySem PySem.Spec PyProof.Rows L2
def DS (h:Fg) (A:EQ) (z:Bool) (p q:d_) (e l:Bool):Prop:=∀ (prog:pi) (w:EO) (E:d_→e_→Prop) (s:e_),s.heap=h →
 (∀ Q:Bool→e_→Prop,Q e s→C_ (A_ prog w) A (eqBool p q) Q E s)∧(∀ (b:Bool) (Q:Bool→e_→Prop),(b=b_→z=b_)→Q l s→C_ (A_ prog w) A (oneLt' b p q) Q E s)
section
variable {prog:pi} {w:EO} {A:EQ} {E:d_→e_→Prop} {s:e_}
end
def DT (p q:d_) (e l:Bool):Prop:=∀ (prog:pi) (w:EO) (A:EQ) (E:d_→e_→Prop) (s:e_),
 (∀ Q:Bool→e_→Prop,Q e s→C_ (A_ prog w) A (eqBool p q) Q E s)∧(∀ Q:d_→e_→Prop,Q (.bool l) s→C_ (A_ prog w) A (richCompare .Lt p q) Q E s)
section
open PySem.SeqAt
open PySem.AutoSeq1 (wpAny_loadPart')
open PySem.MeetsSeq PySem.MeetsSeq2 PySem.MeetsSeq3
end
end TS
namespace TS
open PySem PyProof.Rows FD
theorem Lex.as {blt:Nat→Nat→Bool} (O:Od blt) {a b:Nat} (h:Lex blt a b) (h':Lex blt b a):False:=by
 have:=h.tr O h';rcases this with q | q
 · rw [O.ir] at q; cases q
 · omega
section
variable {prog:pi} {w:EO} {A:EQ} {E:d_→e_→Prop} {s:e_}
end
section
variable {prog:pi} {w:EO} {A:EQ} {E:d_→e_→Prop} {s:e_} {blt:Nat→Nat→Bool}
end
end TS
namespace FD
open PySem PySem.Spec PyProof.Rows L2 TS
section
variable {X:Cx} {f':List (k_×Obj)} {σ:L2.St} {H:Hp} {s:e_}
end
section
variable {X:Cx} {f':List (k_×Obj)} {σ:L2.St} {H:Hp} {s:e_}
end
section
variable {X:Cx} {p pos:Pos} {e:D_} {es:List D_} {ga:FnA}
end
end FD
namespace FD
open PySem PySem.Spec PyProof.Rows L2 PySem.W
section
variable {X:Cx} {hx:D_} {body:List F_} {f:FnS} {g:FnE} {J n:Str} {CJ:k_} {np rp2 hpos pos:Pos}
end
end FD
namespace FD
open PySem PySem.Spec PyProof.Rows L2 TS
section
variable {X:Cx} {f':List (k_×Obj)} {σ:L2.St} {H:Hp} {s:e_} {k:Nat} {f:k_} {fd:F3} {ps:List Str} {F:List Dv→Option (Rs Dv)} {A':EQ} {E:d_→e_→Prop}
end
end FD
namespace TS
open PySem PyProof.Rows FD
section
variable {prog:pi} {w:EO} {A:EQ} {E:d_→e_→Prop} {s:e_} {blt:Nat→Nat→Bool}
end
end TS
namespace FD
open PySem PySem.Spec PyProof.Rows L2 TS
section
variable {X:Cx} {f':List (k_×Obj)} {σ:L2.St} {H:Hp} {s:e_} {k:Nat} {f:k_} {fd:F3} {ps:List Str} {F:List Dv→Option (Rs Dv)} {A':EQ} {E:d_→e_→Prop}
end
section
variable {X:Cx} {f':List (k_×Obj)} {σ:L2.St} {H:Hp} {s:e_} {k:Nat} {f:k_} {fd:F3} {ps:List Str} {F:List Dv→Option (Rs Dv)} {A':EQ} {E:d_→e_→Prop}
end
section
variable {X:Cx} {f':List (k_×Obj)} {σ:L2.St} {H:Hp} {s:e_} {k:Nat} {f:k_} {fd:F3} {ps:List Str} {F:List Dv→Option (Rs Dv)} {E:d_→e_→Prop}
end
section
variable {X:Cx} {k' n:Nat} {ps:List Str} {x:Str} {p p2 kp pos:Pos} {e:D_} {F:List Dv→Option (Rs Dv)} {g:FnA}
end
end FD
namespace FD
open PySem PySem.Spec PyProof.Rows L2
section
variable {X:Cx} {p pos:Pos} {e:D_} {es:List D_} {ga:FnA}
end
end FD
namespace TS
open PySem PySem.Spec PyProof.Rows L2 FD
def okF (ks:List Nat):Bool:=ks.all fun k=>k != 0 && h_ (k < 4)
end TS
namespace FD
open PySem PySem.Spec PyProof.Rows L2 TS
section
variable {X:Cx}
end
end FD
namespace FD
open PySem PySem.Spec PyProof.Rows L2
def ak (X:Cx) (N:List Str) (scope:GB) (C:k_) (s:e_) (H:Hp) (fp:List k_):Cx :=
 { X with N:=N,s₀:=s,H₀:=H,env:=Lv scope (Fw (C + 1) scope.names (gX scope.names X.env [])) C X.env,outer:=X.stack,stack:=X.stack,ex:=fp,fn:=fun y=>scope.names.lookup y == some .cell,pn:=[],xe:=fun _ _=>False }
structure fX (osc scope:GB) (cs:List (Str×Nat)) (N:List Str):Prop where
 kind:scope.kind=.function
 one:∀ y∈scope.names,y.2=.cell→scope.names.lookup y.1=some .cell
 names:∀ y∈scope.names,y.2=.local→scope.names.lookup y.1=some .local
 free:∀ y∈scope.names,y.2=.free→osc.names.lookup y.1=some .cell∨osc.names.lookup y.1=some .free
 caps:∀ c∈cs,N[c.2]?=some c.1∧scope.names.lookup c.1=some .free
theorem fL:∀ (names:List (Str×GW)) (lo:Nat) (acc:List (Str×k_)),Fw lo names acc=Fw lo names [] ++ acc
 | [],_,_=>rfl
 | (n,k) :: r,lo,acc=>by
  unfold Fw;split
  · rw [fL r (lo + 1) ((n,lo) :: acc),fL r (lo + 1) [(n,lo)],LS]; rfl
  · exact fL r lo acc
theorem pH:∀ {names:List (Str×GW)} {lo:Nat} {n:Str} {c:k_},(n,c)∈Fw lo names []→(n,Gu)∈names
 | [],_,_,_,h=>(nomatch h)
 | (m,k) :: r,lo,n,c,h=>by
  unfold Fw at h;split at h
  · rename_i hk;rw [fL] at h;rcases t_.mp h with q | q
    · exact f_ _ (pH q)
    · have e:n=m:=by simp at q; exact q.1
      have ek:k=.cell:=by simpa using hk
      subst e ek;exact g_
  · exact f_ _ (pH h)
theorem mh:∀ {names:List (Str×GW)} {lo:Nat} {n:Str},(n,Gu)∈names→((Fw lo names []).lookup n).isSome=b_
 | [],_,_,h=>(nomatch h)
 | (m,k) :: r,lo,n,h=>by
  unfold Fw;rcases q_.mp h with e | q
  · cases e;rw [if_pos (by decide),fL,Ha];cases hl:(Fw (lo + 1) r []).lookup m with
    | some _=>rfl
    | none=>simp
  · split
    · rw [fL,Ha];have:=mh (lo:=lo + 1) q;cases hl:(Fw (lo + 1) r []).lookup n with
      | some _=>rfl
      | none=>rw [hl] at this; cases this
    · exact mh q
theorem vJ {M:K4} {A:EQ} {E:d_→e_→Prop} {s:e_} {scope:GB} {globals:k_} {cl:List (Str×k_)} {qual:Str} {env:Env} {Q:Env→e_→Prop} (hk:scope.kind=.function)
 (hQ:Q (newEnv scope s.heap.objs.size globals (Fw (s.heap.objs.size + 1) scope.names cl) qual none .none (some env) K_) { s with heap:=pushCells (s.heap.push { cls:=.type "dict",data:=.dict #[] }) scope.names }) :
 C_ M A (Kp scope globals cl [] qual none .none (some env)) Q E s:=by
 simp only [Kp,Option.isSome_some,if_true];refine ge (wpAny_alloc ?_);refine ge (wpAny_layCells _ (fun name kind cells=>by cases hkc:kind == Gu <;> simp [hkc]) _ _ _ _ ?_);rw [show ({ s with heap:=s.heap.push { cls:=.type "dict",data:=.dict #[] } }:e_).heap.objs.size=s.heap.objs.size + 1 from Gz ..];refine ge ?_;rw [List.forIn_nil];exact m_ (m_ hQ)
theorem pI {X:Cx} {f':List (k_×Obj)} {σ:L2.St} {H:Hp} {s:e_} {scope:GB} {ns:List Str} {cs:List (Str×Nat)} {fp:List k_} {h₁:Fg} {C:k_} {t':Nat} (ok:fX X.env.scope scope cs X.N) (I:Inv X f' σ H s) (hfp:∀ b∈fp,qJ X f' H b) (hlt:∀ b∈fp,b < s.heap.objs.size)
 (hC:s.heap.objs.size≤C) (hns:h₁.Ns C fun _=>none) (old:∀ b o,s.heap.get? b=some o→h₁.get? b=some o) (hck:CellsOk h₁ (C + 1) (Fw (C + 1) scope.names [])) :
 Inv (ak X (ns ++ cs.map (·.1)) scope C s H fp) [] (jR ns.length cs σ) H { s with heap:=h₁,toks:=t' }:=by
 have cl1:∀ n c,(gX scope.names X.env []).lookup n=some c→X.env.cells.lookup n=some c:=fun n c e=>by
  rcases iE _ _ e with q | ⟨q1,q2⟩
  · simp at q
  · obtain ⟨c',e'⟩:=I.ok.has n (ok.free _ q1 rfl);rw [e'] at q2;rw [e',q2] <;> rfl
 have lk:∀ n c,(ak X (ns ++ cs.map (·.1)) scope C s H fp).env.cells.lookup n=some c→(n,c)∈Fw (C + 1) scope.names []∨((n,Gu) ∉ scope.names∧(gX scope.names X.env []).lookup n=some c):=fun n c e=>by
  have e':(Fw (C + 1) scope.names (gX scope.names X.env [])).lookup n=some c:=e;rw [fL,Ha] at e';cases hl:(Fw (C + 1) scope.names []).lookup n with
  | some c'=>rw [hl] at e'; cases e'; exact .inl (mem_of_lookup hl)
  | none =>
   rw [hl] at e';refine .inr ⟨fun hm=>?_,e'⟩;have:=mh (lo:=C + 1) hm;rw [hl] at this;cases this
 have lk2:∀ n c,(n,Gu) ∉ scope.names→(gX scope.names X.env []).lookup n=some c→(ak X (ns ++ cs.map (·.1)) scope C s H fp).env.cells.lookup n=some c:=fun n c hm e=>by
  show (Fw (C + 1) scope.names (gX scope.names X.env [])).lookup n=some c;rw [fL,Ha];cases hl:(Fw (C + 1) scope.names []).lookup n with
  | some c'=>exact absurd (pH (mem_of_lookup hl)) hm
  | none=>exact e
 have big:∀ n c,(n,c)∈Fw (C + 1) scope.names []→s.heap.objs.size < c:=fun n c hm=>y_ (Nat.lt_succ_of_le hC) (hck.empty n c hm).2;have low:∀ n c,(gX scope.names X.env []).lookup n=some c→c < s.heap.objs.size:=fun n c e=>by
  obtain ⟨v,o,ho,_⟩:=I.cell n c (cl1 n c e);exact B_ ho
 have inj:∀ y z c,(ak X (ns ++ cs.map (·.1)) scope C s H fp).env.cells.lookup y=some c→(ak X (ns ++ cs.map (·.1)) scope C s H fp).env.cells.lookup z=some c→y=z:=fun y z c e1 e2=>by
  rcases lk y c e1 with p | ⟨_,p⟩ <;> rcases lk z c e2 with q | ⟨_,q⟩
  · exact name_of_addr hck.apart p q
  · exact absurd (J_ (big y c p) (low z c q)) (Gj _)
  · exact absurd (J_ (big z c q) (low y c p)) (Gj _)
  · exact I.ok.inj y z c (cl1 y c p) (cl1 z c q)
 refine ⟨⟨I.ok.mod,ok.kind,I.ok.glob,I.ok.blt,hC,inj,fun y hy=>?_,fun y c hfn e=>?_,I.ok.hd,I.ok.frames,.inl rfl,fun b hb=>⟨fun z=>?_,fun y c e=>?_⟩,I.bs,EW I.ok.bsz I.sz,fun b o e hb=>?_,fun b hb z=>?_,I.stack,I.stkFree⟩,
  rfl,I.bare,Un.kept old,⟨_,hns,fun i y v h1 h2 h3=>?_⟩,fun y c e=>?_,I.hok.fresh hC,fun y c e=>?_,fun p hp=>absurd (show p∈([]:List (k_×Obj)) from hp) (by simp),I.hok.kept old,by simp [jR,ak]⟩
 · have hm:(y,Gu)∈scope.names∨(y,Gi)∈scope.names:=by
    rcases hy with hy | hy
    · rcases gp hy with q | ⟨_,q⟩
      · exact .inl q
      · exact .inr q
    · rcases gp hy with q | ⟨q,_⟩
      · exact .inr q
      · cases q
   by_cases hcl:(y,Gu)∈scope.names
   · obtain ⟨c,hc'⟩:=Gv.mp (mh (lo:=C + 1) hcl);refine ⟨c,?_⟩;show (Fw (C + 1) scope.names (gX scope.names X.env [])).lookup y=some c;rw [fL,Ha,hc'];rfl
   · obtain ⟨c,hc'⟩:=Gv.mp (iU (env:=X.env) scope.names [] (hm.resolve_left hcl));exact ⟨c,lk2 y c hcl hc'⟩
 · have hfn':scope.names.lookup y=some .cell:=by simpa [ak] using hfn
   rcases lk y c e with p | ⟨p,_⟩
   · exact Ia (big y c p)
   · exact absurd (dg hfn') p
 · have:=hlt b hb;rw [z] at this;exact absurd (y_ this hC) (Gj _)
 · rcases lk y c e with p | ⟨_,p⟩
   · exact fun z=>absurd (J_ (big y c p) (z ▸ hlt b hb)) (Gj _)
   · exact (hfp b hb).2.2.2.2.1 y c (cl1 y c p)
 · rcases (hfp b hb).2.2.2.1 with z | z
   · exact I.ok.noex b o e z
   · exact absurd (y_ (B_ e) (EW I.ok.bsz z)) (Gj _)
 · rcases q_.mp (I.stkSub b z) with q | q
   · exact (hfp b hb).2.1 q
   · exact (hfp b hb).2.2.1 q
 · obtain ⟨k,rfl,h4⟩:=jS h2;have h1':(ns ++ cs.map (·.1))[ns.length + k]?=some y:=h1;rw [FN (by simp)] at h1';simp only [JO] at h1';rw [Fh] at h1';cases hc:cs[k]? with
   | none=>rw [hc] at h1'; simp at h1'
   | some c =>
    rw [hc] at h1';have ey:c.1=y:=by simpa using h1'
    subst ey;rw [Fh,hc] at h4;simp only [HB,LH] at h4;have h2':σ[c.2]?=some (some v):=by
     cases q:σ[c.2]? with
     | none=>rw [q] at h4; simp at h4
     | some o=>rw [q] at h4; simp at h4; rw [h4]
    obtain ⟨hN,hf⟩:=ok.caps c (Gf hc);have hv:=ok.free _ (dg hf) rfl;obtain ⟨mm,_,hl⟩:=I.loc;obtain ⟨u,r,l⟩:=hl c.2 c.1 v hN h2' (.inr hv);refine ⟨u,r,.inr ⟨gq hf,?_⟩⟩;rcases l with ⟨l,_⟩ | ⟨_,a,ha,o,ho,hd⟩
    · have l':X.env.scope.names.lookup c.1=some .local:=l;rcases hv with z | z
      · rw [l'] at z; cases z
      · rw [l'] at z; cases z
    · obtain ⟨a',ha'⟩:=Gv.mp (iU (env:=X.env) scope.names [] (dg hf));have e2:=cl1 _ _ ha';rw [ha] at e2;cases e2;exact ⟨a,lk2 _ _ (fun hm=>by have z:=ok.one _ hm rfl; rw [hf] at z; cases z) ha',o,old _ _ ho,hd⟩
 · rcases lk y c e with p | ⟨_,p⟩
   · exact ⟨none,(hck.empty y c p).1⟩
   · obtain ⟨v,o,ho,hd⟩:=I.cell y c (cl1 y c p);exact ⟨v,o,old _ _ ho,hd⟩
 · rcases lk y c e with p | ⟨_,p⟩
   · exact I.hok.fresh (Ia (big y c p))
   · exact I.freeC y c (cl1 y c p)
def zy (X:Cx) (ns:List Str) (cs:List (Str×Nat)) (scope:GB) (D:k_) (s2:e_) (H2:Hp) (fp:List k_) (tn:Nat→Fg→Prop) (ds ys:List Dv) (b:Dv→Ev→Option Ev) (tst:Option FnB) (fe:FnE) (ρ:Ev) (m:Nat) (s':e_):Prop :=
 ∃ i σ' H' es vs its,m=ds.length - i∧i≤ds.length∧Inv (ak X (ns ++ cs.map (·.1)) scope (D + 1) s2 H2 fp) [] σ' H' s'∧Envs X.K H' σ' (fT ns.length cs ρ)∧tn i s'.heap∧(∀ b∈fp,H' b=none)∧H' D=none∧LAt s'.heap D its∧Vals vs its∧Reps X.K H' es vs∧es.length≤i∧Same H2 H' ∧
  (match jQ b tst fe (fT ns.length cs ρ) (ds.drop i) with | some zs=>es ++ zs=ys | none=>False)
theorem iL {X:Cx} {f':List (k_×Obj)} {σ:L2.St} {tg elt iter:D_} {ifs:List D_} {scope:GB} {pos:Pos} {ns:List Str} {tst:Option FnB} {fe:FnE} {b:Dv→Ev→Option Ev} {js:List Nat} (cs:List (Str×Nat)) (ok:fX X.env.scope scope cs X.N) (hc:X.calm=b_)
 (htg:∀ C s H fp,FG (ak X (ns ++ cs.map (·.1)) scope C s H fp) tg b) (helt:∀ C s H fp,(∃ f' σ,Inv X f' σ H s)→FE (ak X (ns ++ cs.map (·.1)) scope C s H fp) elt fe) (hifs:∀ C s H fp,(∃ f' σ,Inv X f' σ H s)→rj (ak X (ns ++ cs.map (·.1)) scope C s H fp) ifs tst)
 (hback:∀ ρ d ρ',b d (fT ns.length cs ρ)=some ρ'→fgt js ρ'=fT ns.length cs ρ)
 {ρ:Ev} {s2:e_} {it:k_} {fp:List k_} {tn:Nat→Fg→Prop} {J:It} {H2:Hp} (E:Envs X.K H2 σ ρ) (I2:Inv X f' σ H2 s2) (T:uC X.prog X.w X.K tg J fp it tn) (st2:tn 0 s2.heap) (f2:∀ b∈fp,qJ X f' H2 b) {ds ys:List Dv} (wk:WkG X.K J ds H2) (hdl:ds.length≤100000) (hyl:ys.length≤100000) (hm:jQ b tst fe (fT ns.length cs ρ) ds=some ys)
 {RR:d_→k_→Ld→e_→Prop}
 (hRR:∀ (D C:k_) (s6:e_) (H5:Hp) (vs:List V) (m6:Str→Option d_),Inv X f' σ (upd H5 D (.lst vs)) s6→H5 D=none→Same H2 H5→Reps X.K H5 ys vs→s6.heap.Ns C m6→H5 C=none→C≠D→s2.heap.objs.size≤C→RR (.ref D) C (.ok .next) s6) :
 C_ (A_ X.prog X.w) X.A (newList []) (fun acc s₃=>C_ (A_ X.prog X.w) X.A (Kp scope X.env.globals (gX scope.names X.env []) [] X.env.qual none .none (some X.env)) (fun cenv s₄ =>
  HW (A_ X.prog X.w) X.A (.compStart (.ListComp elt [⟨tg,iter,ifs,0⟩] scope pos) 0 (.ref it) acc { cenv with scope:=relabel scope X.env }) (RR acc cenv.locals) s₄) X.xe s₃) X.xe s2:=by
 have fplt:∀ b∈fp,b < s2.heap.objs.size:=fun b hb=>by
  obtain ⟨o,ho,_⟩:=T.obj _ _ st2 b hb;exact B_ ho
 refine Hk (vJ ok.kind ?_);dsimp only;generalize hH2:s2.heap.push { cls:=.type "list",dict:=none,data:=.seq ([]:List d_).toArray }=P2;obtain ⟨D,hD⟩:∃ D,s2.heap.objs.size=D:=⟨_,rfl⟩;have hC:P2.objs.size=D + 1:=by rw [← hH2,Gz,hD]
 rw [hC,hD];obtain ⟨h₁,hh₁⟩:∃ h,h=pushCells (P2.push { cls:=.type "dict",data:=.dict #[] }) scope.names:=⟨_,rfl⟩;rw [← hh₁];have kp:∀ b o,P2.get? b=some o→h₁.get? b=some o:=fun b o e=>by rw [hh₁]; exact pushCells_keeps _ _ b o (on _ e)
 have old:∀ b o,s2.heap.get? b=some o→h₁.get? b=some o:=fun b o e=>kp b o (hH2 ▸ on _ e);have hacc:LAt h₁ D []:=⟨0,kp _ _ (by rw [← hH2,← hD]; exact EY _ rfl)⟩;have hns:h₁.Ns (D + 1) fun _=>none:=by
  rw [hh₁,← hC];exact (Heap.Ns.new P2 (.type "dict")).keeps (pushCells_keeps _ _)
 have hck:CellsOk h₁ (D + 1 + 1) (Fw (D + 1 + 1) scope.names []):=by
  have q:=cellsFrom_ok scope.names (P2.push { cls:=.type "dict",data:=.dict #[] }) (D + 1 + 1) [] ⟨fun _ _ hm=>(nomatch hm),Ii⟩ (by rw [Gz,hC]; exact p_ _);rw [Gz,hC,← hh₁] at q;exact q
 have I4:Inv (ak X (ns ++ cs.map (·.1)) scope (D + 1) s2 H2 fp) [] (jR ns.length cs σ) H2 { s2 with heap:=h₁ }:=pI (t':=s2.toks) ok I2 f2 fplt (by rw [hD]; exact Nat.le_succ D) hns old hck;have E4:Envs X.K H2 (jR ns.length cs σ) (fT ns.length cs ρ):=oK ns.length cs E;have HD:H2 D=none:=I2.hok.fresh (Ib hD);have fpD:∀ b∈fp,b≠D:=fun b hb=>uT (hD ▸ fplt b hb);have loop:∀ s4:e_,s4={ s2 with heap:=h₁ } →
  HW (A_ X.prog X.w) X.A (.compLoop (.ListComp elt [⟨tg,iter,ifs,0⟩] scope pos) 0 (.ref it) (.ref D) (Lv scope (Fw (D + 1 + 1) scope.names (gX scope.names X.env [])) (D + 1) X.env)) (RR (.ref D) (D + 1)) s4:=by
  rintro s4 rfl;refine jT (fun k s'=>zy X ns cs scope D s2 H2 fp tn ds ys b tst fe ρ k s') ?_ ds.length ⟨0,jR ns.length cs σ,H2,[],[],[],by simp,F7 _,I4,E4,T.keep _ _ _ st2 fun b hb o e=>old b o e,fun b hb=>(f2 b hb).1,HD,hacc,.nil,rfl,p_ _,.refl H2,by rw [Ho,hm]; rfl⟩;rintro k0 s5 ⟨i,σ5,H5,es,vs,its,rfl,hi5,I5,E5,t5,fr5,D5,l5,v5,r5,hel,e5,hz⟩;have nC:∀ b∈fp,b≠D + 1:=fun b hb=>yz (hD ▸ fplt b hb);have DL:D≠(ak X (ns ++ cs.map (·.1)) scope (D + 1) s2 H2 fp).env.locals:=DI;have Dcell:∀ y c,(ak X (ns ++ cs.map (·.1)) scope (D + 1) s2 H2 fp).env.cells.lookup y=some c→c≠D:=fun y c e z=>by
   obtain ⟨v,o,ho,hd⟩:=I5.cell y c e;obtain ⟨n,q⟩:=l5;subst z;rw [q] at ho;cases ho;cases hd
  have Dfs:D ∉ (ak X (ns ++ cs.map (·.1)) scope (D + 1) s2 H2 fp).fs:=fun z=>by
   rcases q_.mp (I2.stkSub D z) with q | q
   · have z2:=I2.lt;rw [hD] at z2;exact uT z2 q.symm
   · exact I2.nofs (Ib hD) q
  have Dp:qJ (ak X (ns ++ cs.map (·.1)) scope (D + 1) s2 H2 fp) [] H5 D:=⟨D5,DL,Dfs,.inr (Ib hD),Dcell,fun p hp=>absurd (show p∈([]:List (k_×Obj)) from hp) (by simp)⟩;have Dob:∀ b∈[D],∃ o,s5.heap.get? b=some o∧∀ v,o.data≠.cell v:=fun b hb=>by
   have e:b=D:=by simpa using hb
   subst e;obtain ⟨n,q⟩:=l5;exact ⟨_,q,fun v z=>by cases z⟩
  have I5p:Inv (ak X (ns ++ cs.map (·.1)) scope (D + 1) s2 H2 fp) (cC [D] s5.heap) σ5 H5 s5:=by
   have q:=I5.pinned (fp:=[D]) (fun b hb=>by
    have e:b=D:=by simpa using hb
    subst e; exact Dp) Dob
   rw [Ki] at q;exact q
  have ner:∀ b∈fp,∀ p∈cC [D] s5.heap,p.1≠b:=fun b hb p hp z=>by
   have e:p.1=D:=by simpa using (gQ hp).1
   exact fpD b hb (z.symm.trans e)
  have fp5':∀ b∈fp,qJ (ak X (ns ++ cs.map (·.1)) scope (D + 1) s2 H2 fp) (cC [D] s5.heap) H5 b:=fun b hb=>⟨fr5 b hb,nC b hb,I4.ok.exfs b hb,.inl hb,(I4.ok.exf b hb).2,fun p hp=>ner b hb p (by simpa [ak] using hp)⟩;have lenR:vs.length=es.length:=r5.length;have lenV:vs.length=its.length:=v5.length;by_cases hlt:i < ds.length
  · refine thn (T.item (ak X (ns ++ cs.map (·.1)) scope (D + 1) s2 H2 fp) rfl rfl rfl hc i (cC [D] s5.heap) s5 σ5 H5 _ I5p fp5' t5 (wk.go i H5 e5 hlt)) fun r s6 ⟨u,hr,h6⟩=>?_;subst hr;refine thn h6 fun _ s7 ⟨xv,H7,I7,r7,y7,t7,fr7⟩=>?_;obtain ⟨e57,d,hd,rd⟩:=wk.yld i H5 xv H7 e5 hlt y7;rw [fF hd] at hz;have I7p:=I7.pinned (fp:=fp) (fun b hb=>⟨fr7 b hb,nC b hb,I4.ok.exfs b hb,.inl hb,(I4.ok.exf b hb).2,fun p hp=>ner b hb p (by simpa [ak] using hp)⟩) (T.obj _ _ t7);have fin:∀ {σ8:L2.St} {H8:Hp} {s8:e_},Inv (ak X (ns ++ cs.map (·.1)) scope (D + 1) s2 H2 fp) (cC [D] s5.heap ++ cC fp s7.heap) σ8 H8 s8→tn (i + 1) s8.heap∧(∀ b∈fp,H8 b=none)∧H8 D=none∧LAt s8.heap D its:=fun {σ8 H8 s8} I8=>by
     refine ⟨T.keep _ _ _ t7 fun b hb o e=>(I8.pin (b,o) (o_ _ (o_ _ (bJ hb e)))).1,fun b hb=>?_,?_,?_⟩
     · obtain ⟨o,e,_⟩:=T.obj _ _ t7 b hb;exact (I8.pin (b,o) (o_ _ (o_ _ (bJ hb e)))).2.1
     · obtain ⟨n,q⟩:=l5;exact (I8.pin (D,_) (o_ _ (ET _ (bJ (by simp) q)))).2.1
     · obtain ⟨n,q⟩:=l5;exact ⟨n,(I8.pin (D,_) (o_ _ (ET _ (bJ (by simp) q)))).1⟩
    unfold jQ at hz
    match hb:b d (fT ns.length cs ρ) with
    | none=>rw [hb] at hz; exact hz.elim
    | some ρd =>
     rw [hb] at hz;dsimp only at hz;refine FR ((htg (D + 1) s2 H2 fp).h _ s7 σ5 H7 xv u d (fT ns.length cs ρ) ρd I7p r7 rd (E5.mono e57) hb) (fun _ s8 ⟨σ8,H8,I8,e78,E8⟩=>?_) fun _ _ z=>FJ z;have e58:=e57.trans e78;have back:∀ {σ9:L2.St} {H9:Hp},Envs X.K H9 σ9 ρd→Envs X.K H9 σ9 (fT ns.length cs ρ):=fun {σ9 H9} E9=>by
      have q:=Envs.fgt js E9;rw [hback ρ d ρd hb] at q;exact q
     have took:∀ {H9:Hp} {s9:e_},Inv (ak X (ns ++ cs.map (·.1)) scope (D + 1) s2 H2 fp) (cC [D] s5.heap ++ cC fp s7.heap) σ8 H9 s9→Same H8 H9 →
      (match (match fe ρd with | some (.ok y)=>(match jQ b tst fe (fT ns.length cs ρ) (ds.drop (i + 1)) with | some ys=>some (y :: ys) | none=>none) | _=>none) with | some zs=>es ++ zs=ys | none=>False) →
      C_ (A_ X.prog X.w) X.A (eval elt (Lv scope (Fw (D + 1 + 1) scope.names (gX scope.names X.env [])) (D + 1) X.env)) (fun xw s₄ =>
       C_ (A_ X.prog X.w) X.A (call (.builtin "list.append") [.ref D,xw]) (fun _ s₅=>∃ k,k < ds.length - i∧zy X ns cs scope D s2 H2 fp tn ds ys b tst fe ρ k s₅) (JT (A_ X.prog X.w) X.A (Lv scope (Fw (D + 1 + 1) scope.names (gX scope.names X.env [])) (D + 1) X.env) fun e s'=>RR (.ref D) (D + 1) (.error e) s') s₄) (JT (A_ X.prog X.w) X.A (Lv scope (Fw (D + 1 + 1) scope.names (gX scope.names X.env [])) (D + 1) X.env) fun e s'=>RR (.ref D) (D + 1) (.error e) s') s9:=fun {H9 s9} I9 e9 hz9=>by
      match hfe:fe ρd,hz9 with
      | none,hz9=>exact hz9.elim
      | some (.exc c),hz9=>exact hz9.elim
      | some (.ok y),hz9 =>
       refine FR ((helt (D + 1) s2 H2 fp ⟨_,_,I2⟩).h _ s9 σ8 H9 (fun v H10=>Same H9 H10∧Rep X.K H10 y v) I9 ⟨ρd,E8.mono e9,by rw [hfe]; exact fun v H10 e10 r10=>⟨e10,r10⟩⟩) (fun w s10 ⟨yv,H10,I10,rw10,e10,r10⟩=>?_) fun _ _ z=>FJ z;obtain ⟨t10,fr10,D10,l10⟩:=fin I10;refine mQ l10 (by omega) fun h11 l11 k11=>?_;have I10':Inv (ak X (ns ++ cs.map (·.1)) scope (D + 1) s2 H2 fp) (cC fp s7.heap) σ8 H10 s10:=I10.pins_of fun p hp=>I10.pin p (o_ _ (o_ _ hp));have I11:Inv (ak X (ns ++ cs.map (·.1)) scope (D + 1) s2 H2 fp) (cC fp s7.heap) σ8 H10 { s10 with heap:=h11 }:=I10'.turned (t':=s10.toks) k11 D10 DL (.inr (Ib hD)) Dcell fun p hp z=>by
        have hp':p∈cC fp s7.heap:=by simpa [ak] using hp
        exact fpD p.1 (gQ hp').1 z
       have e80:=e9.trans e10;refine ⟨ds.length - (i + 1),by omega,i + 1,σ8,H10,es ++ [y],vs ++ [yv],its ++ [w],rfl,hlt,I11.pins_of fun p hp=>absurd hp (by simp),back (E8.mono e80),T.keep _ _ _ t10 fun b hb o e=>k11 b o (fpD b hb) e,fr10,D10,l11,v5.append (.cons rw10 .nil),(Reps.mono (e58.trans e80) _ _ r5).append ⟨yv,[],rfl,r10,rfl⟩,by rw [z_,Km]; omega,e5.trans (e58.trans e80),?_⟩
       match hm2:jQ b tst fe (fT ns.length cs ρ) (ds.drop (i + 1)),hz9 with
       | none,hz9=>exact hz9.elim
       | some zs,hz9=>dsimp only at hz9 ⊢; rw [LS]; exact hz9
     have hif:=hifs (D + 1) s2 H2 fp ⟨_,_,I2⟩;cases tst with
     | none =>
      cases (show ifs=[] from hif);exact wpAny_tests_nil (by rw [if_pos rfl]; exact took I8 (.refl H8) hz)
     | some t =>
      obtain ⟨c,rfl,hct⟩:=hif
      match htt:t ρd,hz with
      | none,hz=>simp only [htt] at hz
      | some (.exc c),hz=>simp only [htt] at hz
      | some (.ok b_),hz =>
       simp only [htt] at hz;refine wpAny_tests_one (FR (hct.h _ s8 σ8 H8 (fun b H9=>b=b_∧Same H8 H9) I8 ⟨_,E8,by rw [htt]; exact fun H9 e9=>⟨rfl,e9⟩⟩) (fun b s9 ⟨H9,I9,hb,e9⟩=>?_) fun _ _ z=>FJ z);subst hb;rw [if_pos rfl];exact took I9 e9 hz
      | some (.ok c_),hz =>
       simp only [htt] at hz;refine wpAny_tests_one (FR (hct.h _ s8 σ8 H8 (fun b H9=>b=c_∧Same H8 H9) I8 ⟨_,E8,by rw [htt]; exact fun H9 e9=>⟨rfl,e9⟩⟩) (fun b s9 ⟨H9,I9,hb,e9⟩=>?_) fun _ _ z=>FJ z);subst hb;rw [if_neg n_];obtain ⟨t9,fr9,D9,l9⟩:=fin I9;exact ⟨ds.length - (i + 1),by omega,i + 1,σ8,H9,es,vs,its,rfl,hlt,I9.pins_of fun p hp=>absurd hp (by simp),back (E8.mono e9),t9,fr9,D9,l9,v5,Reps.mono (e58.trans e9) _ _ r5,by omega,e5.trans (e58.trans e9),hz⟩
  · have hi':i=ds.length:=by omega
    subst hi';rw [Iv] at hz;have hz':es ++ []=ys:=hz;rw [HF] at hz';subst hz';refine thn (T.done (ak X (ns ++ cs.map (·.1)) scope (D + 1) s2 H2 fp) rfl rfl rfl hc ds.length (cC [D] s5.heap) s5 σ5 H5 _ I5p fp5' t5 (wk.stop H5 e5)) fun r s6 ⟨hr,I6⟩=>?_;subst hr;have l6:LAt s6.heap D its:=by
     obtain ⟨n,q⟩:=l5;exact ⟨n,(I6.pin (D,_) (o_ _ (bJ (by simp) q))).1⟩
    obtain ⟨m6,n6,_⟩:=I6.loc;have C6:H5 (D + 1)=none:=I6.free;have new:ObjOk X.prog X.w (upd H5 D (.lst vs)) s6.heap D (.lst vs):=by
     obtain ⟨n,q⟩:=l6;exact ⟨by rw [lenR]; exact br hyl,its,n,v5,q⟩
    have u6:Un (L2.frs X.stack) fp H2 H5 s2.heap s6.heap:=I6.base;have nD:∀ b o,s2.heap.get? b=some o→b≠D:=fun b o e=>by
     have hb:b < D:=by rw [← hD]; exact B_ e
     exact uT hb
    have u7:Un (L2.frs X.stack) fp H2 (upd H5 D (.lst vs)) s2.heap s6.heap:=⟨u6.keep,u6.slot,fun b o e n hx=>by rw [ay (nD b o e)]; exact u6.free b o e n hx,u6.there,fun b xs q=>by
     have q':=u6.tups b xs q;rw [ay (av q' D5)]; exact q',fun b o u q=>by
     have q':=u6.frzs b o u q;rw [ay (av q' D5)]; exact q',fun b ps q=>by
     obtain ⟨more,q'⟩:=u6.tbls b ps q;exact ⟨more,by rw [ay (av q' D5)]; exact q'⟩⟩
    have I7:Inv X f' σ (upd H5 D (.lst vs)) s6:=I2.call' (s':=s6) (ch:=fp) I6.os u7 (HOk.add I6.hok D5 C6 (fun b u _ q=>q) new) I6.bare fun b hb=>⟨(f2 b hb).2.2.2.1,(f2 b hb).2.1,(f2 b hb).2.2.2.2.1,(f2 b hb).2.2.2.2.2⟩;exact hRR D (D + 1) s6 H5 vs m6 I7 D5 e5 r5 n6 C6 (HC DI) (by rw [hD]; exact Nat.le_succ D)
 exact codeAny_compStart_list (loop _ rfl) (T.self _ 0 _ _ _ (T.keep _ _ _ st2 fun b hb o e=>old b o e) (loop _ rfl))
theorem si {X:Cx} {tg elt iter:D_} {ifs:List D_} {scope:GB} {pos:Pos} {src:FnA} {tst:Option FnB} {fe:FnE} {b:Dv→Ev→Option Ev} (osc:GB) (N ns:List Str) (js:List Nat) (cs:List (Str×Nat)) (hosc:X.env.scope=osc) (hN:X.N=N) (ok:fX osc scope cs N) (hcl:IZ scope X.env=pure (gX scope.names X.env [])) (hc:X.calm=b_)
 (hback:∀ ρ d ρ',b d (fT ns.length cs ρ)=some ρ'→fgt js ρ'=fT ns.length cs ρ)
 (hi:FIG X tg iter src) (htg:∀ C s H fp,FG (ak X (ns ++ cs.map (·.1)) scope C s H fp) tg b) (helt:∀ C s H fp,(∃ f' σ,Inv X f' σ H s)→FE (ak X (ns ++ cs.map (·.1)) scope C s H fp) elt fe) (hifs:∀ C s H fp,(∃ f' σ,Inv X f' σ H s)→rj (ak X (ns ++ cs.map (·.1)) scope C s H fp) ifs tst)
 (hs:∀ x,Ft iter X.env x=pure x:=by intro _; kernel_rfl):FE X (.ListComp elt [⟨tg,iter,ifs,0⟩] scope pos) (cK ns.length cs src b tst fe):=by
 subst hosc hN;constructor;intro f' s σ H Q I h;obtain ⟨ρ,E,o⟩:=h
 match ho:cK ns.length cs src b tst fe ρ with
 | none=>rw [ho] at o; exact o.elim
 | some r =>
  rw [ho] at o;rw [eval_ListComp];have key:OutG X H (src ρ) fun J H'=>∃ ds ys,Same H H'∧WkG X.K J ds H'∧ds.length≤100000∧ys.length≤100000∧jQ b tst fe (fT ns.length cs ρ) ds=some ys∧(∀ v H'',Same H' H''→Rep X.K H'' (.lst ys) v→Q v H''):=by
   rcases Cj ho with ⟨c,e1,e2⟩ | ⟨ds,ys,e1,e2,l1,l2,e3⟩
   · subst e2; rw [e1]; exact o
   · subst e3; rw [e1]; exact fun J H' e wk=>⟨ds,ys,e,wk,l1,l2,e2,fun v H'' e2 r=>o v H'' (e.trans e2) r⟩
  refine Jz (use:=none) rfl hs hcl ok.kind ok.names (thn (hi.h f' s σ H _ I ⟨ρ,E,key⟩) fun v s1 h1=>thn h1 fun itv s2 h2=>?_);obtain ⟨it,fp,tn,J,H2,e,I2,T,st2,f2,ds,ys,e12,wk,hdl,hyl,hm,hQ⟩:=h2;subst e;refine iL cs ok hc htg helt hifs hback (E.mono e12) I2 T st2 f2 wk hdl hyl hm (RR:=fun acc C=>compPost (A_ X.prog X.w) X.A X.xe none (EP X f' σ Q) acc C) fun D C s6 H5 vs m6 I6 D5 e5 r5 n6 C6 CD hC=>?_;refine ⟨m6,n6,fun h7 sb7=>?_⟩;have Cn:(upd H5 D (.lst vs)) C=none:=by rw [ay CD]; exact C6
  obtain ⟨q0,q1,q2,q3,q4,q5⟩:=I2.fpOk hC Cn;have I7:Inv X f' σ (upd H5 D (.lst vs)) { s6 with heap:=h7 }:=I6.turned (t':=s6.toks) (fun b o hb e=>sb7.extBut b o hb e) q0 q1 q3 q4 q5;exact ⟨.ref D,_,I7,rfl,hQ _ _ (e5.trans (aA D5 _)) ⟨D,vs,rfl,ar,Reps.mono (aA D5 _) _ _ r5⟩⟩
theorem sj {X:Cx} {tg elt iter:D_} {ifs:List D_} {scope:GB} {pos:Pos} {src:FnA} {tst:Option FnB} {fe:FnE} {b:Dv→Ev→Option Ev} (osc:GB) (N ns:List Str) (js:List Nat) (cs:List (Str×Nat)) (hosc:X.env.scope=osc) (hN:X.N=N) (ok:fX osc scope cs N) (hcl:IZ scope X.env=pure (gX scope.names X.env [])) (hc:X.calm=b_)
 (hback:∀ ρ d ρ',b d (fT ns.length cs ρ)=some ρ'→fgt js ρ'=fT ns.length cs ρ)
 (hi:FIG X tg iter src) (htg:∀ C s H fp,FG (ak X (ns ++ cs.map (·.1)) scope C s H fp) tg b) (helt:∀ C s H fp,FE (ak X (ns ++ cs.map (·.1)) scope C s H fp) elt fe) (hifs:∀ C s H fp,rj (ak X (ns ++ cs.map (·.1)) scope C s H fp) ifs tst)
 (hs:∀ x,Ft iter X.env x=pure x:=by intro _; kernel_rfl):FE X (.ListComp elt [⟨tg,iter,ifs,0⟩] scope pos) (cK ns.length cs src b tst fe) :=
 si osc N ns js cs hosc hN ok hcl hc hback hi htg (fun C s H fp _=>helt C s H fp) (fun C s H fp _=>hifs C s H fp) hs
theorem sk {X:Cx} {tg elt iter:D_} {ifs:List D_} {scope:GB} {pos:Pos} {src:FnA} {tst:Option FnB} {fe:FnE} {b:Dv→Ev→Option Ev} {y:Str} {py spos:Pos} (i:Nat) (hnd:X.N.Nodup) (hiy:X.N[i]?=some y) (hxy:Loc X.env.scope y) (hfy:X.fn y=b_∨X.env.scope.names.lookup y=some .local)
 (osc:GB) (N ns:List Str) (js:List Nat) (cs:List (Str×Nat)) (hosc:X.env.scope=osc) (hN:X.N=N) (ok:fX osc scope cs N) (hcl:IZ scope X.env=pure (gX scope.names X.env [])) (hc:X.calm=b_)
 (hback:∀ ρ d ρ',b d (fT ns.length cs ρ)=some ρ'→fgt js ρ'=fT ns.length cs ρ)
 (hi:FIG X tg iter src) (htg:∀ C s H fp,FG (ak X (ns ++ cs.map (·.1)) scope C s H fp) tg b) (helt:∀ C s H fp,FE (ak X (ns ++ cs.map (·.1)) scope C s H fp) elt fe) (hifs:∀ C s H fp,rj (ak X (ns ++ cs.map (·.1)) scope C s H fp) ifs tst)
 (hsw:Gr (.ListComp elt [⟨tg,iter,ifs,0⟩] scope pos) (some (.Name y py)) spos.line X.env=pure b_:=by kernel_rfl)
 (hs:∀ x,Ft iter X.env x=pure x:=by intro _; kernel_rfl):PS X (.Assign [.Name y py] (.ListComp elt [⟨tg,iter,ifs,0⟩] scope pos) spos) (tC X i (cK ns.length cs src b tst fe)):=by
 subst hosc hN;intro f' s σ H D0 I h;obtain ⟨ρ,E,o⟩:=h
 match ho:cK ns.length cs src b tst fe ρ with
 | none=>rw [ho] at o; exact o.elim
 | some r =>
  rw [ho] at o;have key:OutG X H (src ρ) fun J H'=>∃ ds ys,Same H H'∧WkG X.K J ds H'∧ds.length≤100000∧ys.length≤100000∧jQ b tst fe (fT ns.length cs ρ) ds=some ys∧(∀ H5 p vs,Same H' H5→H5 p=none→Reps X.K H5 ys vs→D0.nx (σ.set i (some (.ref p))) (upd H5 p (.lst vs))):=by
   rcases Cj ho with ⟨c,e1,e2⟩ | ⟨ds,ys,e1,e2,l1,l2,e3⟩
   · subst e2; rw [e1]; exact o
   · subst e3; rw [e1]; obtain ⟨ys',ey,o⟩:=o; cases ey; exact fun J H' e wk=>⟨ds,ys,e,wk,l1,l2,e2,fun H5 p vs e3 hp r=>o H5 p vs (e.trans e3) hp r⟩
  rw [exec_Assign_Name_used _ _ _ _ hsw];refine ge (KZ (ge ?_));show C_ _ X.A (do let _ ← comprehension (.ListComp elt [⟨tg,iter,ifs,0⟩] scope pos) scope X.env _ (newList []) c_ (eval iter X.env) (some (JV (.Name y py) X.env))) _ _ s
  refine ge (FR (Jz (use:=some (JV (.Name y py) X.env)) (Q:=fun _ s'=>SP X f' D0 .next s') rfl hs hcl ok.kind ok.names
   (thn (hi.h f' s σ H _ I ⟨ρ,E,key⟩) fun v s1 h1=>thn h1 fun itv s2 h2=>?_)) (fun _ s' hq=>m_ (m_ hq)) fun _ _ e=>e)
  obtain ⟨it,fp,tn,J,H2,e,I2,T,st2,f2,ds,ys,e12,wk,hdl,hyl,hm,hQ⟩:=h2;subst e;refine iL cs ok hc htg (fun C s H fp _=>helt C s H fp) (fun C s H fp _=>hifs C s H fp) hback (E.mono e12) I2 T st2 f2 wk hdl hyl hm (RR:=fun acc C=>compPost (A_ X.prog X.w) X.A X.xe (some (JV (.Name y py) X.env)) (fun _ s'=>SP X f' D0 .next s') acc C) fun D C s6 H5 vs m6 I6 D5 e5 r5 n6 C6 CD hC=>?_;have Cn:(upd H5 D (.lst vs)) C=none:=by rw [ay CD]; exact C6
  have FC:=I2.fpOk hC Cn;obtain ⟨oC,es,ep,hoC,hdC,rC⟩:=id n6;have I6p:=I6.pinned (fp:=[C]) (fun b hb=>by
   have e:b=C:=by simpa using hb
   subst e; exact FC) (fun b hb=>by
   have e:b=C:=by simpa using hb
   subst e;exact ⟨oC,hoC,fun v z=>by rw [hdC] at z; cases z⟩)
  refine thn (gP hnd hiy hxy hfy _ s6 σ _ (.ref D) (.ref D) (fun σ' H'=>σ'=σ.set i (some (.ref D))∧H'=upd H5 D (.lst vs)) I6p rfl ⟨rfl,rfl⟩) fun _ s8 ⟨σ8,H8,I8,e1,e2⟩=>?_;subst e1 e2;have hC8:=(I8.pin (C,oC) (o_ _ (o_ _ (bJ (by simp) hoC)))).1;refine ⟨m6,⟨oC,es,ep,hC8,hdC,rC⟩,fun h9 sb9=>?_⟩;have I8':Inv X f' (σ.set i (some (.ref D))) (upd H5 D (.lst vs)) s8:=I8.unpinned;obtain ⟨q0,q1,q2,q3,q4,q5⟩:=FC;have I9:Inv X f' (σ.set i (some (.ref D))) (upd H5 D (.lst vs)) { s8 with heap:=h9 }:=I8'.turned (t':=s8.toks) (fun b o hb e=>sb9.extBut b o hb e) q0 q1 q3 q4 q5;exact ⟨_,_,I9,hQ H5 D vs e5 D5 r5⟩
abbrev dz:=List (Str×Nat×List Str×(List Dv→Option (Rs Dv)))
theorem ic {β:Type} {x y:Str} {e e':β} {T:List (Str×β)} (h:((y,e) :: T).lookup x=some e'):(x=y∧e'=e)∨T.lookup x=some e':=by
 rw [Fs] at h;split at h
 · rename_i hb;exact .inl ⟨IX hb,by cases h; rfl⟩
 · exact .inr h
section
variable {P:pi} {w:EO} {K:ck} {mg:Str→Option d_} {base:Fg} {T:dz} {y:Str} {k:Nat} {ps:List Str} {F:List Dv→Option (Rs Dv)}
structure HA (P:pi) (w:EO) (K:ck) (mg:Str→Option d_) (base:Fg) (T:dz):Prop where
 h:∀ x e,T.lookup x=some e→Has P w K mg base x e.1 e.2.1 e.2.2
structure HAE (P:pi) (w:EO) (K:ck) (mg:Str→Option d_) (base:Fg) (T:dz):Prop where
 h:∀ x e,T.lookup x=some e→yY P w K mg base x e.1 e.2.1 e.2.2
theorem zz:HA P w K mg base []:=⟨fun _ _ h=>by cases h⟩
theorem vK:HAE P w K mg base []:=⟨fun _ _ h=>by cases h⟩
theorem aF (h:Has P w K mg base y k ps F) (t:HA P w K mg base T):HA P w K mg base ((y,k,ps,F) :: T):=⟨fun x e q=>by
 rcases ic q with ⟨rfl,rfl⟩ | q
 · exact h
 · exact t.h x e q⟩
theorem jf (h:yY P w K mg base y k ps F) (t:HAE P w K mg base T):HAE P w K mg base ((y,k,ps,F) :: T):=⟨fun x e q=>by
 rcases ic q with ⟨rfl,rfl⟩ | q
 · exact h
 · exact t.h x e q⟩
abbrev zA:=List (Str×Option Dv)
def cN (s:String):Str×Option Dv:=(a_ s,none)
def cI (s:String) (i:Int):Str×Option Dv:=(a_ s,some (.int i))
def cS (s z:String):Str×Option Dv:=(a_ s,some (.str (a_ z)))
def Et (mg:Str→Option d_) (x:Str):Option Dv→Prop
 | none=>mg x=none
 | some (.int i)=>∃ t,mg x=some (.int i t)
 | some (.str z)=>∃ t,mg x=some (.str z t)
 | _=>False
structure MA (mg:Str→Option d_) (C:zA):Prop where
 h:∀ x o,C.lookup x=some o→Et mg x o
theorem MA.no {C:zA} {x:Str} (h:MA mg C) (e:C.lookup x=some none):mg x=none:=h.h x none e
def CM (K:ck) (q:Str×Option Dv):Bool:=match q.2,GF K x_ q.1 with
 | none,some none=>b_
 | some (.int i),some (some (.int j _))=>i == j
 | some (.str z),some (some (.str y _))=>z == y
 | _,_=>c_
theorem zB {h:Fg} (X:K.In h) (G:h.Ns x_ mg):∀ (C:zA),C.all (CM K)=b_→MA mg C
 | [],_=>⟨fun x o q=>by cases q⟩
 | (y,o) :: C,e=>⟨fun x o' q=>by
  rw [Hi,i_] at e;rcases ic q with ⟨rfl,rfl⟩ | q
  · have h1:=e.1;unfold CM at h1;dsimp only at h1;split at h1
    · rename_i e1;exact PySem.W.mg_none_of X G e1
    · rename_i i j t e1;have hij:i=j:=IX h1;subst hij;exact ⟨t,Iy X G e1⟩
    · rename_i z y t e1;have hij:z=y:=IX h1;subst hij;exact ⟨t,Iy X G e1⟩
    · cases h1
  · exact (zB X G C e.2).h x o' q⟩
end
section
variable {X:Cx} {T:dz} {C:zA} {k' n:Nat} {x:Str} {p pos:Pos} {e:D_} {es:List D_} {F:List Dv→Option (Rs Dv)} {g:FnA}
theorem sm (hT:HA X.prog X.w X.K X.mg X.base T) (hr:Room k' X.A) (hF:(T.lookup x).map (fun q=>q.2.2)=some F) (ha:FA X (e :: es) g) (hk:((T.lookup x).all fun q=>Nat.ble q.1 k' && KP n q.2.1.length)=b_:=by kernel_rfl) (hg:X.env.kindOf x=some .globalImplicit:=by kernel_rfl) (hdb:(x == ("__debug__":Str))=c_:=by kernel_rfl)
 (he:j_ (e :: es) X.env=(c_,eval e X.env) :: j_ es X.env:=by kernel_rfl) (hpl:(FV pos (j_ es X.env)).any (·.1)=c_:=by kernel_rfl) :
 FE X (.Call (.Name x p) (e :: es) [] pos) (aj F n g):=by
 cases hq:T.lookup x with
 | none=>rw [hq] at hF; cases hF
 | some q =>
  rw [hq] at hF hk;cases hF;rw [Kg,i_] at hk;exact rh q.1 q.2.1 q.2.2 (hT.h x q hq) hr (Il hk.1) hg ha (Hj hk.2) hdb he hpl
theorem pJ (hT:HAE X.prog X.w X.K X.mg X.base T) (hr:Room k' X.A) (hF:(T.lookup x).map (fun q=>q.2.2)=some F) (hex:X.ex=[]) (ha:FA X (e :: es) g) (hk:((T.lookup x).all fun q=>Nat.ble q.1 k' && KP n q.2.1.length)=b_:=by kernel_rfl) (hg:X.env.kindOf x=some .globalImplicit:=by kernel_rfl) (hdb:(x == ("__debug__":Str))=c_:=by kernel_rfl)
 (he:j_ (e :: es) X.env=(c_,eval e X.env) :: j_ es X.env:=by kernel_rfl) (hpl:(FV pos (j_ es X.env)).any (·.1)=c_:=by kernel_rfl) :
 FE X (.Call (.Name x p) (e :: es) [] pos) (bQ F n g):=by
 cases hq:T.lookup x with
 | none=>rw [hq] at hF; cases hF
 | some q =>
  rw [hq] at hF hk;cases hF;rw [Kg,i_] at hk;exact rF q.1 q.2.1 q.2.2 (hT.h x q hq) hr (Il hk.1) hex hg ha (Hj hk.2) hdb he hpl
theorem CN {i:Int} (hM:MA X.mg C) (hl:C.lookup x=some (some (.int i))) (hg:X.env.kindOf x=some .globalImplicit:=by kernel_rfl) (hd:(x == ("__debug__":Str))=c_:=by kernel_rfl):FE X (.Name x pos) (fC (.int i)) :=
 let ⟨_,h⟩:=hM.h x _ hl
 uN hg h hd
theorem CO {z:Str} (hM:MA X.mg C) (hl:C.lookup x=some (some (.str z))) (hg:X.env.kindOf x=some .globalImplicit:=by kernel_rfl) (hd:(x == ("__debug__":Str))=c_:=by kernel_rfl):FE X (.Name x pos) (fC (.str z)) :=
 let ⟨_,h⟩:=hM.h x _ hl
 uO hg h hd
def ndB:List Str→Bool
 | []=>b_
 | x :: r=>!(r.contains x) && ndB r
theorem gD:∀ {l:List Str},ndB l=b_→l.Nodup
 | [],_=>List.nodup_nil
 | x :: r,h=>by
  unfold ndB at h;rw [i_] at h;refine Hc.2 ⟨fun hx=>?_,gD h.2⟩;have h1:=h.1;rw [List.contains_iff_mem.2 hx] at h1;cases h1
def jy (sc:GB) (x:Str):Bool:=match sc.names.lookup x with
 | some .local=>b_
 | some .cell=>b_
 | _=>c_
theorem dZ {sc:GB} {x:Str} (h:jy sc x=b_):Loc sc x:=by
 unfold jy at h;split at h
 · exact .inl ‹_›
 · exact .inr ‹_›
 · cases h
def zC (osc scope:GB) (cs:List (Str×Nat)) (N:List Str):Bool :=
 h_ (scope.kind=.function) && h_ (∀ y∈scope.names,y.2=.cell→scope.names.lookup y.1=some .cell) && h_ (∀ y∈scope.names,y.2=.local→scope.names.lookup y.1=some .local) && h_ (∀ y∈scope.names,y.2=.free→osc.names.lookup y.1=some .cell∨osc.names.lookup y.1=some .free) && h_ (∀ c∈cs,N[c.2]?=some c.1∧scope.names.lookup c.1=some .free)
theorem ue {osc scope:GB} {cs:List (Str×Nat)} {N:List Str} (h:zC osc scope cs N=b_):fX osc scope cs N:=by
 unfold zC at h;simp only [i_,decide_eq_true_eq] at h;exact ⟨h.1.1.1.1,h.1.1.1.2,h.1.1.2,h.1.2,h.2⟩
theorem lkc {env:Env}:∀ {names:List (Str×GW)} {x:Str},names.lookup x=some .cell →
 (names.map fun (n,k)=>if (k == Gi && env.scope.kind == .function && env.kindOf n == some .cell) then (n,Gu) else (n,k)).lookup x=some .cell
 | [],_,h=>by simp at h
 | (n,k) :: r,x,h=>by
  rw [Fs] at h;rw [Fe];cases hx:x == n with
  | true =>
   rw [hx] at h;cases h;simp [Fs,hx]
  | false =>
   rw [hx] at h;have ih:=lkc (env:=env) h;dsimp only;split
   · rw [Fs,hx]; exact ih
   · rw [Fs,hx]; exact ih
theorem fgL {X:Cx} {N:List Str} {scope:GB} {C:k_} {s:e_} {H:Hp} {fp:List k_} {x:Str} (h:jy scope x=b_):Loc (ak X N scope C s H fp).env.scope x∧((ak X N scope C s H fp).fn x=b_∨(ak X N scope C s H fp).env.scope.names.lookup x=some .local):=by
 rcases dZ h with h | h
 · exact ⟨.inl (Kq h),.inr (Kq h)⟩
 · exact ⟨.inr (lkc h),.inl (by show (scope.names.lookup x == some .cell)=b_; rw [h]; rfl)⟩
end
section
variable {X:Cx} {elt iter:D_} {ifs:List D_} {scope:GB} {pos px py pt spos:Pos} {src:FnA} {tst:Option FnB} {fe:FnE} {cs:List (Str×Nat)} {x y z:Str} {i:Nat} {k:Nat}
theorem fgA {N:List Str} (C:k_) (s:e_) (H:Hp) (fp:List k_) (hnd:ndB N=b_) (hx:N[0]?=some x) (hl:jy scope x=b_):FG (ak X N scope C s H fp) (.Name x px) (gN 0) :=
 ve 0 (gD hnd) hx (fgL hl).1 (fgL hl).2
theorem CP (hi:FIG X (.Name x px) iter src) (helt:∀ C s H fp,FE (ak X (x :: cs.map (·.1)) scope C s H fp) elt fe) (hifs:∀ C s H fp,rj (ak X (x :: cs.map (·.1)) scope C s H fp) ifs tst)
 (hok:zC X.env.scope scope cs X.N=b_:=by kernel_rfl) (hcl:IZ scope X.env=pure (gX scope.names X.env []):=by kernel_rfl) (hc:X.calm=b_:=by kernel_rfl) (hnd:ndB (x :: cs.map (·.1))=b_:=by kernel_rfl) (hl:jy scope x=b_:=by kernel_rfl)
 (hs:∀ x,Ft iter X.env x=pure x:=by intro _; kernel_rfl):FE X (.ListComp elt [⟨.Name x px,iter,ifs,0⟩] scope pos) (cz cs src tst fe) :=
 (vE (cs:=cs) (src:=src) (tst:=tst) (fe:=fe)) ▸ sj X.env.scope X.N [x] [0] cs rfl rfl (ue hok) hcl hc (yS _) hi (fun C s H fp=>fgA C s H fp hnd rfl hl) helt hifs hs
theorem CQ (hi:FIG X (.Name x px) iter src) (helt:∀ C s H fp,FE (ak X (x :: cs.map (·.1)) scope C s H fp) elt fe) (hifs:∀ C s H fp,rj (ak X (x :: cs.map (·.1)) scope C s H fp) ifs tst)
 (hN:ndB X.N=b_) (hiy:X.N[i]?=some y) (hxy:jy X.env.scope y=b_) (hfy:X.fn y=b_)
 (hok:zC X.env.scope scope cs X.N=b_) (hcl:IZ scope X.env=pure (gX scope.names X.env [])) (hc:X.calm=b_) (hnd:ndB (x :: cs.map (·.1))=b_) (hl:jy scope x=b_)
 (hsw:Gr (.ListComp elt [⟨.Name x px,iter,ifs,0⟩] scope pos) (some (.Name y py)) spos.line X.env=pure b_)
 (hs:∀ x,Ft iter X.env x=pure x):PS X (.Assign [.Name y py] (.ListComp elt [⟨.Name x px,iter,ifs,0⟩] scope pos) spos) (tC X i (cK 1 cs src (gN 0) tst fe)) :=
 sk i (gD hN) hiy (dZ hxy) (.inl hfy) X.env.scope X.N [x] [0] cs rfl rfl (ue hok) hcl hc (yS _) hi (fun C s H fp=>fgA C s H fp hnd rfl hl) helt hifs hsw hs
theorem CS (hi:FIG X (.Name x px) iter src) (helt:∀ C s H fp,FE (ak X (x :: cs.map (·.1)) scope C s H fp) elt fe) (hifs:∀ C s H fp,rj (ak X (x :: cs.map (·.1)) scope C s H fp) ifs tst)
 (hsw:Gr (.ListComp elt [⟨.Name x px,iter,ifs,0⟩] scope pos) (some (.Name y py)) spos.line X.env=pure b_)
 (hN:ndB X.N=b_:=by kernel_rfl) (hiy:X.N[i]?=some y:=by kernel_rfl) (hxy:jy X.env.scope y=b_:=by kernel_rfl) (hfy:X.fn y=b_:=by kernel_rfl)
 (hok:zC X.env.scope scope cs X.N=b_:=by kernel_rfl) (hcl:IZ scope X.env=pure (gX scope.names X.env []):=by kernel_rfl) (hc:X.calm=b_:=by kernel_rfl) (hnd:ndB (x :: cs.map (·.1))=b_:=by kernel_rfl) (hl:jy scope x=b_:=by kernel_rfl)
 (hs:∀ x,Ft iter X.env x=pure x:=by intro _; kernel_rfl):FS X (.Assign [.Name y py] (.ListComp elt [⟨.Name x px,iter,ifs,0⟩] scope pos) spos) (bn i (cK 1 cs src (gN 0) tst fe)) :=
 vF (CQ hi helt hifs hN hiy hxy hfy hok hcl hc hnd hl hsw hs) pG
end
section
variable {X:Cx} {N:List Str} {scope:GB} {c:D_} {t:FnB}
theorem ss:∀ C s H fp,rj (ak X N scope C s H fp) [] none:=fun _ _ _ _=>rfl
theorem su (h:∀ C s H fp,FT (ak X N scope C s H fp) c t):∀ C s H fp,rj (ak X N scope C s H fp) [c] (some t):=fun C s H fp=>⟨_,rfl,h C s H fp⟩
end
section
variable {X:Cx} {a b c e st ix tg iter:D_} {fa fb fs fi:FnE} {pos p2 pos' py apos cpos pt p1 lp ps:Pos} {i j k kk:Nat} {js:List Nat} {x y:Str} {src g:FnA} {fS:FnS} {fO:dD} {body sts:List F_} {es:List D_} {is:List Nat}
theorem zD (ha:FE X a fa) (hb:FE X b fb) (hs:∀ o i,Mh b c_ o i=operate [o,i] (JU o i):=by intro _ _; kernel_rfl):FE X (.Subscript a b pos) (f2 ixD fa fb):=Ca ha hb hs
theorem vL (he:FE X e fa) (hN:ndB X.N=b_:=by kernel_rfl) (hi:X.N[i]?=some x:=by kernel_rfl) (hx:jy X.env.scope x=b_:=by kernel_rfl) (hf:X.fn x=b_:=by kernel_rfl) (hs:Gr e (some (.Name x pos')) pos.line X.env=pure c_:=by kernel_rfl):FS X (.Assign [.Name x pos'] e pos) (bn i fa) :=
 yt i (gD hN) hi (dZ hx) he hs (.inl hf)
theorem vO (he:FE X e fa) (hex:X.ex=[]:=by kernel_rfl) (hij:KP i j=c_:=by kernel_rfl) (hN:ndB X.N=b_:=by kernel_rfl) (hi:X.N[j]?=some x:=by kernel_rfl) (hx:jy X.env.scope x=b_:=by kernel_rfl) (hf:X.fn x=b_:=by kernel_rfl) (hs:Gr e (some (.Name x pos')) pos.line X.env=pure c_:=by kernel_rfl):FO1 X i (.Assign [.Name x pos'] e pos) (dj j fa) :=
 zi hex j (H_ hij) (gD hN) hi (dZ hx) he hs (.inl hf)
theorem sv (hg:FA X es g) (hr:FOs X i sts fO) (hN:ndB X.N=b_:=by kernel_rfl) (hi:X.N[i]?=some x:=by kernel_rfl) (hx:jy X.env.scope x=b_:=by kernel_rfl) (hf:X.fn x=b_:=by kernel_rfl) (hs:Gr (.List es lp) (some (.Name x pos')) pos.line X.env=pure c_:=by kernel_rfl):FSs X (.Assign [.Name x pos'] (.List es lp) pos :: sts) (qL i g fO) :=
 vq (gD hN) hi (dZ hx) hg hr hs (.inl hf)
theorem vP (hp:IV (A_ X.prog X.w) X.A X.env X.xe) (hi:FI X (.Name x py) iter src) (hb:FSs X body fS) (hc:X.calm=b_:=by kernel_rfl) (hN:ndB X.N=b_:=by kernel_rfl) (hx:X.N[i]?=some x:=by kernel_rfl) (hl:jy X.env.scope x=b_:=by kernel_rfl) (hf:X.fn x=b_:=by kernel_rfl)
 (hs:∀ x,Ft iter X.env x=pure x:=by intro _; kernel_rfl):FS X (.For (.Name x py) iter body [] pos) (jL i js src fS) :=
 yy i js hp hc hi (gP (gD hN) hx (dZ hl) (.inl hf)) hb hs
theorem vQ (hp:IV (A_ X.prog X.w) X.A X.env X.xe) (hi:FI X (.Name x py) iter src) (hb:FOs X i body fO) (hex:X.ex=[]:=by kernel_rfl) (hij:KP i j=c_:=by kernel_rfl) (hc:X.calm=b_:=by kernel_rfl) (hN:ndB X.N=b_:=by kernel_rfl) (hx:X.N[j]?=some x:=by kernel_rfl) (hl:jy X.env.scope x=b_:=by kernel_rfl) (hf:X.fn x=b_:=by kernel_rfl)
 (hs:∀ x,Ft iter X.env x=pure x:=by intro _; kernel_rfl):FO1 X i (.For (.Name x py) iter body [] pos) (i5 j js src fO) :=
 zn hex j js (H_ hij) hp hc hi (gP (gD hN) hx (dZ hl) (.inl hf)) hb hs
theorem pK (hN:X.N[i]?=some x) (hv:jy X.env.scope x=b_) (hd:(x == ("__debug__":Str))=c_) (hcd:(x == ("__classdict__":Str))=c_):PE X (.Name x pos) (xg i):=nK hN ((dZ hv).elim .inl fun h=>.inr (.inl h)) hd hcd
theorem vT (he:FE X e fa) (hx:PE X (.Name x apos) (xg i)) (hex:X.ex=[]:=by kernel_rfl)
 (hbase:Ix (.Name x apos) "append" X.env (eval (.Name x apos) X.env)=eval (.Name x apos) X.env:=by kernel_rfl)
 (hfew:((FV cpos (j_ [e] X.env)).all (fun x=>!x.1) && (Lw cpos (Jq [] X.env)).all (fun x=>x.1.isSome)
   && h_ ([e].length + ([]:List Hz).length + (if ([]:List Hz).isEmpty then 0 else 1) < 30))=b_:=by kernel_rfl)
 (hline:(pt.endLine == cpos.line)=b_:=by kernel_rfl) (hs:j_ [e] X.env=(c_,eval e X.env) :: j_ [] X.env:=by kernel_rfl) (hplain:(FV cpos (j_ [] X.env)).any (·.1)=c_:=by kernel_rfl)
 (hsw:Gr (.Call (.Attribute (.Name x apos) "append" pt) [e] [] cpos) none pos.line X.env=pure c_:=by kernel_rfl):FO1 X i (.Expr (.Call (.Attribute (.Name x apos) "append" pt) [e] [] cpos) pos) (gC fa):=zm hex hx he hbase hfew hline hs hplain hsw
end
section
variable {X:Cx} {o e:D_} {es:List D_} {fo:FnE} {ga:FnA} {apos cpos pos:Pos} {name:Str}
structure SmL (X:Cx) (o:D_) (name:Str) (e:D_) (es:List D_) (apos cpos:Pos):Prop where
 base:Ix o name X.env (eval o X.env)=eval o X.env
 few:((FV cpos (j_ (e :: es) X.env)).all (fun x=>!x.1) && (Lw cpos (Jq [] X.env)).all (fun x=>x.1.isSome)
  && h_ ((e :: es).length + ([]:List Hz).length + (if ([]:List Hz).isEmpty then 0 else 1) < 30))=b_
 line:(apos.endLine == cpos.line)=b_
 s:j_ (e :: es) X.env=(c_,eval e X.env) :: j_ es X.env
 plain:(FV cpos (j_ es X.env)).any (·.1)=c_
theorem pL {id:String} {r:V→List V→Hp→VK→Prop} {g:Str→List Dv→Option (Rs Dv)} (slot:Slot "str" name id) (hty:typeOf (.builtin id)=pure (.type "method_descriptor")) (hm:MtR X id r)
 (hg:∀ i ds vs H Q,Reps X.K H ds vs→Out X H (g i ds) Q→r (.str i) vs H Q) (ho:FE X o fo) (ha:FA X (e :: es) ga) (h:SmL X o name e es apos cpos):FE X (.Call (.Attribute o name apos) (e :: es) [] cpos) (fM g fo ga) :=
 u8 slot hty hm hg ho ha h.base h.few h.line h.s h.plain
end
section
open PySem.W
structure CA (K:ck) (mg:Str→Option d_) (cls:Nat→k_) (CJ:k_) (S:List Nat) (m:Nat):Prop where
 at_:∀ c∈S,mg (xnm c)=some (.ref (cls c))
 j:mg "JarError"=some (.ref CJ)
 xk:∀ c C,c < m→nsIn K x_ (xnm c)=some (some (.ref C))→excIn K C bmV "ValueError.__new__"=b_∧mroIn K C (.ref CJ)=some b_
theorem CA.c {K:ck} {mg:Str→Option d_} {cls:Nat→k_} {CJ:k_} {S:List Nat} {m c:Nat} {x:Str} (h:CA K mg cls CJ S m) (hc:c∈S) (hx:xnm c=x):mg x=some (.ref (cls c)):=by
 subst hx;exact h.at_ c hc
def nsB (K:ck) (x:Str) (a:k_):Bool:=match nsIn K x_ x with
 | some (some (.ref b))=>KP a b
 | _=>c_
theorem uf {K:ck} {x:Str} {a:k_} (h:nsB K x a=b_):nsIn K x_ x=some (some (.ref a)):=by
 unfold nsB at h;split at h
 · rename_i b e;rw [e,Hj h]
 · cases h
def caB (K:ck) (S:List Nat) (Cs:List k_) (CJ:k_) (m:Nat):Bool:=S.all (fun c=>nsB K (xnm c) (Cs.getD c 0)) && nsB K "JarError" CJ && CF K S Cs CJ && (l_ m).all fun c=>S.contains c || (match nsIn K x_ (xnm c) with | some none=>b_ | _=>c_)
theorem CU {K:ck} {mg:Str→Option d_} {h:Fg} {S:List Nat} {Cs:List k_} {CJ:k_} {m:Nat} (X:K.In h) (G:h.Ns x_ mg) (e:caB K S Cs CJ m=b_):XAllS K S (fun c=>Cs.getD c 0) CJ∧CA K mg (fun c=>Cs.getD c 0) CJ S m:=by
 unfold caB at e;rw [i_,i_,i_] at e;obtain ⟨⟨⟨e1,e2⟩,e3⟩,e4⟩:=e;have hn:∀ c∈S,nsIn K x_ (xnm c)=some (some (.ref (Cs.getD c 0))):=fun c hc=>uf (r_.1 e1 c hc);have xa:=rT hn e3;refine ⟨xa,fun c hc=>mg_of X G (hn c hc),mg_of X G (uf e2),fun c C hc q=>?_⟩;have h1:=r_.1 e4 c (Fd.2 hc);rw [Mr] at h1;rcases h1 with h1 | h1
 · have h':c∈S:=by simpa using h1
   rw [xa.same h' q];exact ⟨(xa.at_ c h').2.1,(xa.at_ c h').2.2.2.1⟩
 · rw [q] at h1;cases h1
end
noncomputable abbrev nsM (K:ck) (x:Str):Option (Option d_):=GF K x_ x
structure Af (K:ck) (x:Str) (st:F_) (f:k_):Prop where
 a:nsM K x=some (some (.ref f))
 F:∃ fd,Fun K x x st f fd
 k:Gx K (.ref f)=b_
def fnB (N P:List Str) (sc:GB):Bool:=h_ (sc.kind=.function) && !sc.isCoroutine && !sc.isGenerator && ndB N && h_ (N.take P.length=P) && P.all (jy sc) && h_ (∀ y∈sc.names,y.2≠.free)
theorem CV {N P:List Str} {sc:GB} (h:fnB N P sc=b_):eU N P sc:=by
 unfold fnB at h;simp only [i_,decide_eq_true_eq,Jv] at h;exact ⟨h.1.1.1.1.1.1,h.1.1.1.1.1.2,h.1.1.1.1.2,gD h.1.1.1.2,h.1.1.2,fun x hx=>dZ (r_.1 h.1.2 x hx),h.2⟩
section
variable {P:pi} {w:EO} {K:ck} {mg:Str→Option d_} {base:Fg} {h:Fg} {k:Nat} {x:Str} {st:F_} {f:k_} {F:List Dv→Option (Rs Dv)}
def DU (x:Str) (st:F_) (ps:List Str):Prop:=∀ (kV doc pm:d_) (an:Option k_) (cdv ct:d_) (us:List d_),us.length=ps.length→bindArgs (G7 x x (fV st) (cy st) (aE st) .none kV doc pm an cdv ct) ⟨us,[]⟩=pure (ps.zip us)
theorem aQ (XI:K.In h) (Gn:h.Ns x_ mg) (N ps:List Str) (fb:FnS) (A:Af K x st f) (hbd:DU x st ps)
 (hb:∀ (cdv:d_) (A:EQ) (outer:List Env) (s:e_) (H:Hp) (E:XK),Room k (A.deeper (Ir x (aE st) s.heap.objs.size f cdv))→FSs (nv CX0 P w K mg base N x (aE st) f cdv A outer s H E).nox (cy st) fb) (hF:F=c8 N.length fb:=by kernel_rfl) (hs:fnB N ps (aE st)=b_:=by kernel_rfl):Has P w K mg base x (k + 1) ps F :=
 let ⟨_,Fn⟩:=A.F
 ⟨_,_,tI N ps fb hF rfl Fn (CV hs) hb,Iy XI Gn A.a,A.k,Fn.binds hbd⟩
theorem lc (XI:K.In h) (Gn:h.Ns x_ mg) (N ps:List Str) (fb:FnS) (A:Af K x st f) (hbd:DU x st ps)
 (hb:∀ (cdv:d_) (A:EQ) (outer:List Env) (s:e_) (H:Hp) (E:XK),Room k (A.deeper (Ir x (aE st) s.heap.objs.size f cdv))→FSs (nv (CXE P w) P w K mg base N x (aE st) f cdv A outer s H E) (cy st) fb) (hF:F=qK N.length fb:=by kernel_rfl) (hs:fnB N ps (aE st)=b_:=by kernel_rfl):yY P w K mg base x (k + 1) ps F :=
 let ⟨_,Fn⟩:=A.F
 ⟨_,_,yZ N ps fb hF rfl Fn (CV hs) hb,Iy XI Gn A.a,A.k,Fn.binds hbd⟩
end
section
end
end FD
namespace TS
open PySem PySem.Spec PyProof.Rows L2 FD
def Eu (p q:d_) (e l:Bool):Prop:=∀ (prog:pi) (w:EO) (A:EQ) (E:d_→e_→Prop) (s:e_),
 (∀ Q:Bool→e_→Prop,Q e s→C_ (A_ prog w) A (eqBool p q) Q E s)∧(∀ Q:d_→e_→Prop,Q (.bool l) s→C_ (A_ prog w) A (richCompare .Gt p q) Q E s)
section
open PySem.SeqAt
open PySem.AutoSeq1 (wpAny_loadPart')
open PySem.MeetsSeq PySem.MeetsSeq2 PySem.MeetsSeq3
end
end TS
namespace FD
open PySem PySem.Spec PyProof.Rows L2 TS
section
variable {X:Cx}
end
end FD
namespace FD
open PySem PySem.Spec PyProof.Rows L2
def ix (k:Int):List Int→Nat
 | []=>0
 | m :: r=>if m=k then 0 else ix k r + 1
def er (k:Int):List Int→List Int
 | []=>[]
 | m :: r=>if m=k then r else m :: er k r
structure S2 (X:Cx) (i k:Nat) (a b:k_) (H:Hp) (σ:L2.St) (Hf:Hp) (ρ:Ev):Prop where
 off:∀ c,c≠a→c≠b→Hf c=H c
 na:H a=none
 nb:H b=none
 ne:a≠b
 ia:σ[i]?=some (some (.ref a))
 kb:σ[k]?=some (some (.ref b))
 len:σ.length=ρ.length
 low:∀ j d,j≠i→j≠k→ρ[j]?=some (some d)→∃ v,σ[j]?=some (some v)∧Rep X.K H d v
 fst:∃ ds xs,ρ[i]?=some (some (.lst ds))∧Hf a=some (.lst xs)∧Reps X.K H ds xs
 snd:∃ es ys,ρ[k]?=some (some (.lst es))∧Hf b=some (.lst ys)∧Reps X.K H es ys
section
variable {X:Cx} {i k:Nat} {a b:k_} {H Hf:Hp} {σ:L2.St} {ρ:Ev}
theorem S2.up (S:S2 X i k a b H σ Hf ρ):Same H Hf:=fun c u q=>by
 rw [S.off c (av q S.na) (av q S.nb)]; exact q
theorem S2.grow (S:S2 X i k a b H σ Hf ρ) {Hg:Hp} (e:Same Hf Hg):∃ H',Same H H'∧S2 X i k a b H' σ Hg ρ:=by
 obtain ⟨ds,xs,f1,f2,f3⟩:=S.fst;obtain ⟨es,ys,g1,g2,g3⟩:=S.snd;have up:Same H (fun c=>if c=a∨c=b then none else Hg c):=fun c u q=>by
  have h1:=av q S.na;have h2:=av q S.nb;simp only [h1,h2,or_self,if_false];exact e c u (by rw [S.off c h1 h2]; exact q)
 refine ⟨_,up,⟨fun c h1 h2=>by simp [h1,h2],by simp,by simp,S.ne,S.ia,S.kb,S.len,fun j d h1 h2 h3=>?_,⟨ds,xs,f1,e _ _ f2,Reps.mono up _ _ f3⟩,⟨es,ys,g1,e _ _ g2,Reps.mono up _ _ g3⟩⟩⟩;obtain ⟨v,q1,q2⟩:=S.low j d h1 h2 h3;exact ⟨v,q1,Rep.mono up _ _ q2⟩
theorem S2.put (S:S2 X i k a b H σ Hf ρ) {j:Nat} {d:Dv} {v:V} (h1:j≠i) (h2:j≠k) (r:Rep X.K H d v):S2 X i k a b H (σ.set j (some v)) Hf (ρ.set j (some d)):=by
 obtain ⟨ds,xs,f1,f2,f3⟩:=S.fst;obtain ⟨es,ys,g1,g2,g3⟩:=S.snd;refine ⟨S.off,S.na,S.nb,S.ne,by rw [EU h1]; exact S.ia,by rw [EU h2]; exact S.kb,by rw [Fu,Fu]; exact S.len,fun m d' m1 m2 hm=>?_,⟨ds,xs,by rw [EU h1]; exact f1,f2,f3⟩,⟨es,ys,by rw [EU h2]; exact g1,g2,g3⟩⟩;by_cases hj:j=m
 · subst hj;by_cases hl:j < ρ.length
   · rw [E7 hl] at hm;cases hm;exact ⟨v,by rw [E7 (by rw [S.len]; exact hl)],r⟩
   · rw [FY (by rw [Fu]; omega)] at hm;cases hm
 · rw [EU hj] at hm;rw [EU hj];exact S.low m d' m1 m2 hm
end
abbrev FnP:=Ev→Option Ev
def AftP (X:Cx) (i k:Nat) (a b:k_) (H:Hp) (o:Option Ev) (N:L2.St→Hp→Prop):Prop:=∃ ρ',o=some ρ'∧∀ σ' H' Hf',Same H H'→S2 X i k a b H' σ' Hf' ρ'→N σ' Hf'
def tP (X:Cx) (i k:Nat) (f:FnP):TS:=fun D σ Hf=>∃ H a b ρ,S2 X i k a b H σ Hf ρ∧AftP X i k a b H (f ρ) D.nx
section
variable {X:Cx} {i k:Nat} {st:F_} {sts:List F_} {f g:FnP} {fe:FnE} {gb:FnB} {e c:D_} {pos:Pos}
theorem AftP.mono {a b:k_} {H H':Hp} {o:Option Ev} {N:L2.St→Hp→Prop} (e:Same H H'):AftP X i k a b H o N→AftP X i k a b H' o N
 | ⟨ρ',h,q⟩=>⟨ρ',h,fun σ' H1 Hf' e1=>q σ' H1 Hf' (e.trans e1)⟩
end
section
variable {X:Cx} {elt iter:D_} {x y z w:Str} {px py pz pw pt pos:Pos} {ifs:List D_} {scope:GB} {k:Nat} {src:FnA} {tst:Option FnB} {fe:FnE} {cs:List (Str×Nat)}
end
section
variable {X:Cx} {i k:Nat} {st:F_} {sts:List F_} {f g:FnP} {fe:FnE} {gb:FnB} {e c:D_} {pos:Pos}
end
section
variable {X:Cx} {i:Nat} {e:D_} {fe:FnE} {pos:Pos}
end
section
variable {X:Cx} {i:Nat} {st:F_} {fc:FnE}
end
section
variable {X:Cx} {i:Nat} {e ix:D_} {fe fi:FnE} {pos ps:Pos}
end
def tFr (X:Cx) (fc:FnE):TE:=fun σ H Q=>∃ ρ,Envs X.K H σ ρ∧match fc ρ with
 | none=>False
 | some (.exc c)=>XW X c H
 | some (.ok d)=>∃ ys,d=.lst ys∧∀ H5 p vs,Same H H5→H5 p=none→Reps X.K H5 ys vs→Q (.ref p) (upd H5 p (.lst vs))
theorem CW {X:Cx} {e:D_} {fc:FnE} {j:Nat} {y:Str} {py spos:Pos} (h:PE X e (tFr X fc)) (hN:X.N.Nodup) (hi:X.N[j]?=some y) (hx:Loc X.env.scope y) (hs:Gr e (some (.Name y py)) spos.line X.env=pure c_) (hf:X.fn y=b_):PS X (.Assign [.Name y py] e spos) (tC X j fc):=fun f' s σ H D I ⟨ρ,E,o⟩=>by
 refine lC hN hi hx h hs (.inl hf) f' s σ H D I ⟨ρ,E,?_⟩
 match hfc:fc ρ with
 | none=>rw [hfc] at o; exact o.elim
 | some (.exc c)=>rw [hfc] at o; exact o
 | some (.ok d)=>rw [hfc] at o; exact o
section
variable {X:Cx} {elt iter:D_} {ifs:List D_} {scope:GB} {pos px py pt p2 spos:Pos} {src:FnA} {tst:Option FnB} {fe:FnE} {x y z:Str} {cs:List (Str×Nat)} {i j k:Nat}
end
theorem zE (dx dy:Dv) (c:Nat):addD dx dy≠some (.exc c):=by
 intro h;unfold addD at h;split at h <;> first | cases h | (split at h <;> cases h)
theorem zF {dx dy:Dv} {ys:List Dv} (h:addD dx dy=some (.ok (.lst ys))):∃ a b,dx=.lst a∧dy=.lst b∧a.length + b.length≤100000∧ys=a ++ b:=by
 unfold addD at h;split at h
 · cases h
 · split at h <;> cases h
 · split at h
   · rename_i a b hl;cases h;exact ⟨_,_,rfl,rfl,hl,rfl⟩
   · cases h
 · cases h
section
variable {X:Cx} {a b:D_} {fa fb:FnE} {pos:Pos}
theorem vU (ha:FE X a fa) (hb:FE X b fb):PE X (.BinOp a .Add b pos) (tFr X (f2 addD fa fb)):=by
 intro f' s σ H Q I ⟨ρ,E,o⟩;refine xM tu ha.h hb.h f' s σ H Q I ⟨ρ,E,?_⟩;unfold f2 at o
 match h1:fa ρ with
 | none=>rw [h1] at o; exact o.elim
 | some (.exc _)=>rw [h1] at o; exact o
 | some (.ok dx) =>
  rw [h1] at o;intro x H1 e1 rx;refine ⟨ρ,E.mono e1,?_⟩
  match h2:fb ρ with
  | none=>dsimp only [bnd] at o; rw [h2] at o; exact o.elim
  | some (.exc c)=>dsimp only [bnd] at o; rw [h2] at o; exact XW.mono o e1
  | some (.ok dy) =>
   dsimp only [bnd] at o;rw [h2] at o;intro y H2 e2 ry;have rx2:=Rep.mono e2 dx x rx;dsimp only at o
   match h3:addD dx dy with
   | none=>rw [h3] at o; exact o.elim
   | some (.exc c)=>exact absurd h3 (zE dx dy c)
   | some (.ok d) =>
    rw [h3] at o;obtain ⟨ys,rfl,q⟩:=o;obtain ⟨u,w,rfl,rfl,hl,rfl⟩:=zF h3;obtain ⟨p,xs,rfl,g1,q1⟩:=rx2.lstE;obtain ⟨p2,xs2,rfl,g2,q2⟩:=ry.lstE;exact ⟨p,p2,xs,xs2,rfl,rfl,g1,g2,by rw [q1.length,q2.length]; exact br hl,fun l hl=>q H2 l _ (e1.trans e2) hl (q1.append q2)⟩
end
section
variable {X:Cx} {a b:D_} {fa fb:FnE} {pos pos' bp:Pos} {x:Str} {i:Nat} {sts:List F_} {fO:dD}
theorem sw (ha:FE X a fa) (hb:FE X b fb) (hr:FOs X i sts fO) (hN:ndB X.N=b_:=by kernel_rfl) (hi:X.N[i]?=some x:=by kernel_rfl) (hx:jy X.env.scope x=b_:=by kernel_rfl) (hf:X.fn x=b_:=by kernel_rfl) (hs:Gr (.BinOp a .Add b bp) (some (.Name x pos')) pos.line X.env=pure c_:=by kernel_rfl):FSs X (.Assign [.Name x pos'] (.BinOp a .Add b bp) pos :: sts) (pF i (f2 addD fa fb) fO) :=
 sh hi (CW (vU ha hb) (gD hN) hi (dZ hx) hs hf) hr
end
structure WkV (K:ck) (J:It) (ds:List Dv) (H0:Hp):Prop where
 go:∀ i H,Same H0 H→i < ds.length→J.go i H
 stop:∀ H,Same H0 H→J.stop ds.length H
 yld:∀ i H x H',Same H0 H→i < ds.length→J.yld i H x H'→H'=H∧∃ d,ds[i]?=some d∧Rep K H0 d x
def OutV (X:Cx) (H:Hp) (o:Option (Rs (List Dv))) (R:It→Hp→Prop):Prop:=match o with
 | none=>False
 | some (.exc c)=>XW X c H
 | some (.ok ds)=>∀ J H',Same H H'→WkV X.K J ds H'→R J H'
structure FIV (X:Cx) (tg iter:D_) (f:FnA):Prop where
 h:PI X tg iter fun σ H R=>∃ ρ,Envs X.K H σ ρ∧OutV X H (f ρ) R
def ug:Dv→Option (Rs (List Dv))
 | .lst ds=>some (.ok ds)
 | _=>none
def vX (f:FnE):FnA:=fun ρ=>bnd (f ρ) ug
theorem sx {K:ck} {H:Hp} {a:k_} {xs:List V} {ds:List Dv} (h:H a=some (.lst xs)) (r:Reps K H ds xs):WkV K (Itl K a) ds H where
 go:=(kO h r).go
 stop:=(kO h r).stop
 yld:=fun i H' x H2 e hi y=>by
  obtain ⟨e2,y⟩:=y;obtain ⟨d,h1,h2⟩:=Reps.get r (y xs (SqL.of (e _ _ h)));exact ⟨e2,d,h1,h2⟩
theorem OutV.mono {X:Cx} {H H':Hp} {R:It→Hp→Prop} (e:Same H H'):∀ {o:Option (Rs (List Dv))},OutV X H o R→OutV X H' o R
 | none,h=>h
 | some (.exc _),h=>XW.mono h e
 | some (.ok _),h=>fun v H1 e1 r=>h v H1 (e.trans e1) r
section
variable {X:Cx} {tg l:D_} {fl:FnE}
theorem vY (hl:FE X l fl):FIV X tg l (vX fl):=by
 constructor;intro f' s σ H R I h;obtain ⟨ρ,E,o⟩:=h;have key:Out X H (fl ρ) fun x H1=>∃ d,Rep X.K H1 d x∧OutV X H1 (ug d) R:=by
  unfold vX at o
  match hf:fl ρ,o with
  | some (.exc c),o=>exact o
  | some (.ok d),o=>exact fun v H1 e r=>⟨d,r,OutV.mono e o⟩
  | none,o=>exact o
 refine thn (hl.h f' s σ H _ I ⟨ρ,E,key⟩) fun v s1 ⟨x,H1,I1,r1,d,rd,q⟩=>?_;cases d with
 | lst ds =>
  obtain ⟨a,xs,rfl,h1,h2⟩:=rd.lstE;cases r1;obtain ⟨its,rv,p,hz⟩:=I1.list (SqL.of h1);refine HU p.isList ?_;refine ⟨s1.heap.objs.size,[s1.heap.objs.size],_,Itl X.K a,H1,rfl,I1.kept (t':=s1.toks) fun b o e=>on _ e,jz a _,⟨_,EY _ rfl,rfl,rfl⟩,fun b hb=>?_,q _ H1 (.refl H1) (sx h1 h2)⟩;have e:b=s1.heap.objs.size:=by simpa using hb
  subst e;exact I1.fpOk (p_ _) (I1.hok.fresh (p_ _))
 | _=>exact (show False from q).elim
end
def sy (j:Nat) (js:List Nat) (src:FnA) (body:dD):dD:=fun ρ xs=>lV (src ρ) fun ds=>dc j js body ds ρ xs
theorem vZ {X:Cx} {i:Nat} {tg iter:D_} {body:List F_} {pos:Pos} {src:FnA} {fb:dD} (hex:X.ex=[]) (j:Nat) (js:List Nat) (hij:i≠j) (hp:IV (A_ X.prog X.w) X.A X.env X.xe) (hc:X.calm=b_) (hi:FIV X tg iter src) (hg:PG X tg (nQ j)) (hb:FOs X i body fb)
 (hs:∀ x,Ft iter X.env x=pure x:=by intro _; kernel_rfl):FO1 X i (.For tg iter body [] pos) (sy j js src fb):=⟨fun f' s σ Hf D I ⟨H,a,xs,ρ,ds,e1,ha,hia,E,r,o⟩=>by
 refine nW hp hc (o8 hex hi.h) hg hb.h hs f' s σ Hf D I ⟨H,a,xs,e1,ha,ρ,E,?_⟩;unfold sy at o
 match hf:src ρ with
 | none=>rw [hf] at o; exact o.elim
 | some (.exc _)=>rw [hf] at o; exact o.elim
 | some (.ok us) =>
  rw [hf] at o;have o0:OutW X i a H (dc j js fb us ρ ds) D:=o;intro J H1 e1 wk ha1;have o1:=OutW.mono e1 o0;refine ⟨fun n m σ' Hf'=>m=us.length - n∧n≤us.length∧∃ H' xs' ρ' ds',Hf'=upd H' a (.lst xs')∧H' a=none∧Same H1 H'∧σ'[i]?=some (some (.ref a))∧Envs X.K H' σ' ρ'∧Reps X.K H' ds' xs'∧OutW X i a H' (dc j js fb (us.drop n) ρ' ds') D,
   ⟨us.length,by simp,F7 _,H1,xs,ρ,ds,rfl,ha1,.refl H1,hia,E.mono e1,Reps.mono e1 _ _ r,by simpa using o1⟩,?_⟩
  rintro n m σ' Hf' ⟨rfl,hn,H',xs',ρ',ds',rfl,ha',e2,hia',E',r',o'⟩;have e2f:Same H1 (upd H' a (.lst xs')):=e2.trans (cq ha');by_cases hlt:n < us.length
  · refine .inr ⟨wk.go n _ e2f hlt,fun σ2 Hf2=>∃ H2 xs2 ρ2 ds2,Hf2=upd H2 a (.lst xs2)∧H2 a=none∧Same H1 H2∧σ2[i]?=some (some (.ref a))∧Envs X.K H2 σ2 ρ2∧Reps X.K H2 ds2 xs2∧OutW X i a H2 (dc j js fb (us.drop (n + 1)) ρ2 ds2) D,
     fun σ2 Hf2 q=>⟨us.length - (n + 1),by omega,rfl,hlt,q⟩,fun x H2 y=>?_⟩
    obtain ⟨rfl,d,hd,rd⟩:=wk.yld n _ x H2 e2f hlt y;have rd':=Rep.mono e2 d x rd;rw [fF hd] at o';show tO X i fb _ _ _;refine ⟨H',a,xs',(fgt js ρ').set j (some d),ds',rfl,ha',by rw [EU (HC hij)]; exact hia',(Envs.fgt js E').set rd',r',?_⟩;unfold dc at o'
    match hb':fb ((fgt js ρ').set j (some d)) ds' with
    | none=>rw [hb'] at o'; exact o'
    | some (.rt r)=>rw [hb'] at o'; exact o'
    | some (.nx ρ2 ds2)=>rw [hb'] at o'; exact fun σ2 H3 xs3 e3 h3 hi3 E3 r3=>⟨H3,xs3,ρ2,ds2,rfl,h3,e2.trans e3,hi3,E3,r3,OutW.mono e3 o'⟩
  · have hn':n=us.length:=by omega
    subst hn';rw [Iv] at o';exact .inl ⟨wk.stop _ e2f,o' σ' H' xs' (.refl H') ha' hia' (Envs.fgt js E') r'⟩⟩
theorem sA {X:Cx} {i j:Nat} {js:List Nat} {x:Str} {py pos:Pos} {iter:D_} {body:List F_} {src:FnA} {fO:dD} (hp:IV (A_ X.prog X.w) X.A X.env X.xe) (hi:FIV X (.Name x py) iter src) (hb:FOs X i body fO) (hex:X.ex=[]:=by kernel_rfl) (hij:KP i j=c_:=by kernel_rfl) (hc:X.calm=b_:=by kernel_rfl) (hN:ndB X.N=b_:=by kernel_rfl) (hx:X.N[j]?=some x:=by kernel_rfl) (hl:jy X.env.scope x=b_:=by kernel_rfl) (hf:X.fn x=b_:=by kernel_rfl)
 (hs:∀ x,Ft iter X.env x=pure x:=by intro _; kernel_rfl):FO1 X i (.For (.Name x py) iter body [] pos) (sy j js src fO) :=
 vZ hex j js (H_ hij) hp hc hi (gP (gD hN) hx (dZ hl) (.inl hf)) hb hs
theorem sB {X:Cx} {a:D_} {fa:FnE} {k:Nat} {p0 p1 p2 pos:Pos} (ha:FE X a fa):FE X (.Subscript a (.Slice none none (some (.UnaryOp .USub (.Constant (.int 1) k p0) p1)) p2) pos) (fK fa):=rZ ha (tJ tE)
def v9:List Dv→Option (Rs Dv)
 | [.bl b]=>some (.ok (.int (if b=b_ then 1 else 0)))
 | _=>none
section
variable {X:Cx} {p pos:Pos} {e:D_} {es:List D_} {ga:FnA}
theorem pM:CallR X (.type "int") (fun xs H Q=>∃ b,xs=[.bl b]∧Q (.int (if b=b_ then 1 else 0)) H):=by
 intro f' s σ H xs us Q I r h;obtain ⟨b,rfl,q⟩:=h;obtain ⟨u,rfl,r1⟩:=gw r;cases (show u=.bool b from r1);exact PySem.call_int_bool ⟨.int _,H,I.tok _,⟨_,rfl⟩,q⟩
theorem sC (hg:Gl X "int") (hm:X.mg "int"=none) (ha:FA X (e :: es) ga) (he:j_ (e :: es) X.env=(c_,eval e X.env) :: j_ es X.env:=by kernel_rfl) (hpl:(FV pos (j_ es X.env)).any (·.1)=c_:=by kernel_rfl):FE X (.Call (.Name "int" p) (e :: es) [] pos) (fB1 v9 ga) :=
 bR (fz pM hg hm (by decide +kernel) ha.h (by decide) (by decide) he hpl) fun σ H Q ρ E o=>⟨ρ,E,OutA.bind o fun ds vs H1 e1 rs o1=>by
  unfold v9 at o1;split at o1
  · rename_i b;obtain ⟨v,rfl,r⟩:=eJ rs;cases (show v=.bl b from r);exact ⟨b,rfl,o1 _ H1 (.refl H1) rfl⟩
  · exact o1.elim⟩
end
end FD
namespace FD
open PySem PySem.Spec PyProof.Rows L2 PySem.W
section
variable {X:Cx} {ex hx:D_} {f g:FnE} {J:Str} {CJ:k_} {np rp rp2 hpos pos:Pos}
end
end FD
namespace FD
open PySem PySem.Spec PyProof.Rows L2
theorem CY {X:Cx}:jC (CXE X.prog X.w) X E0:=by
 intro f' σ H s ev s' I ⟨e,cls,H',he,os,bare,un,hok,F,h⟩;exact h.elim
theorem pN {X:Cx} {k' n:Nat} {x:Str} {p pos:Pos} {e:D_} {es:List D_} {g:FnA} (k:Nat) (ps:List Str) (F:List Dv→Option (Rs Dv)) (h:yY X.prog X.w X.K X.mg X.base x k ps F) (hr:Room k' X.A) (hk:k≤k') (hg:Gl X x) (ha:FA X (e :: es) g) (hn:n=ps.length:=by kernel_rfl) (hdb:(x == ("__debug__":Str))=c_:=by kernel_rfl)
 (he:j_ (e :: es) X.env=(c_,eval e X.env) :: j_ es X.env:=by kernel_rfl) (hpl:(FV pos (j_ es X.env)).any (·.1)=c_:=by kernel_rfl) :
 FE X (.Call (.Name x p) (e :: es) [] pos) (aj F n g):=by
 subst hn;obtain ⟨f,fd,G,hm,hkp,hb⟩:=h;refine bR (kH (G.mono hk) hr hg hm hkp hb .nil CY ha.h hdb he hpl) fun σ H Q ρ E o=>⟨ρ,E,OutA.bind o fun ds vs H' e rs o1=>?_⟩;show spE X.K F ps.length (vs ++ []) H' Q E0;rw [HF];by_cases hl:ds.length=ps.length
 · rw [if_pos hl] at o1;refine ⟨ds,rs,hl,?_⟩
   match hF:F ds with
   | none=>rw [hF] at o1; exact o1.elim
   | some (.ok d)=>rw [hF] at o1; exact o1
   | some (.exc c)=>rw [hF] at o1; exact o1.elim
 · rw [if_neg hl] at o1;exact o1.elim
theorem pO {X:Cx} {T:dz} {k' n:Nat} {x:Str} {p pos:Pos} {e:D_} {es:List D_} {F:List Dv→Option (Rs Dv)} {g:FnA} (hT:HAE X.prog X.w X.K X.mg X.base T) (hr:Room k' X.A) (hF:(T.lookup x).map (fun q=>q.2.2)=some F) (ha:FA X (e :: es) g) (hk:((T.lookup x).all fun q=>Nat.ble q.1 k' && KP n q.2.1.length)=b_:=by kernel_rfl) (hg:X.env.kindOf x=some .globalImplicit:=by kernel_rfl) (hdb:(x == ("__debug__":Str))=c_:=by kernel_rfl)
 (he:j_ (e :: es) X.env=(c_,eval e X.env) :: j_ es X.env:=by kernel_rfl) (hpl:(FV pos (j_ es X.env)).any (·.1)=c_:=by kernel_rfl) :
 FE X (.Call (.Name x p) (e :: es) [] pos) (aj F n g):=by
 cases hq:T.lookup x with
 | none=>rw [hq] at hF; cases hF
 | some q =>
  rw [hq] at hF hk;cases hF;rw [Kg,i_] at hk;exact pN q.1 q.2.1 q.2.2 (hT.h x q hq) hr (Il hk.1) hg ha (Hj hk.2) hdb he hpl
end FD
namespace FD
open PySem PySem.Spec PyProof.Rows L2 PySem.W
def pP (m i N:Nat) (f:FnE) (g:FnS):FnS:=fun ρ=>match f ρ with
 | none=>none
 | some (.ok d)=>some (.rt d)
 | some (.exc c)=>if c < m then (match g ((E6 N none).set i (some (.exn c))) with
  | some (.rt d)=>some (.rt d)
  | _=>none) else none
section
variable {X:Cx} {ex:D_} {h0:F_} {hx:List F_} {f:FnE} {g:FnS} {J n:Str} {CJ:k_} {np rp rp2 hpos pos:Pos}
theorem wa (m i N:Nat) (hex:X.ex=[]) (hst:X.stack=X.env :: X.outer) (hfm:X.env.frame=some X.env.locals) (hgJ:Gl X J) (hmJ:X.mg J=some (.ref CJ)) (KJ:excIn X.K CJ bmV "ValueError.__new__"=b_)
 (xk:∀ c C,c < m→nsIn X.K x_ (xnm c)=some (some (.ref C))→excIn X.K C bmV "ValueError.__new__"=b_∧mroIn X.K C (.ref CJ)=some b_)
 (hN:X.N.Nodup) (hi:X.N[i]?=some n) (hl:X.env.scope.names.lookup n=some .local) (hNl:X.N.length=N)
 (hb:∀ pl E',FE (xj X pl E') ex f) (hh:∀ pl e,FSs (kY X pl e) (h0 :: hx) g) (hdb:(J == ("__debug__":Str))=c_:=by kernel_rfl) :
 FS X (.Try [.Return (some ex) rp] [.ExceptHandler (some (.Name J np)) (some n) (h0 :: hx) hpos] [] [] pos) (pP m i N f g):=by
 constructor;intro f' s σ H D I ⟨ρ,E,o⟩;refine wpAny_Try_except ?_;have hbody:=fun E' (h:OutS (xj X f' E') H (bb f ρ) { nx:=fun _ _=>False,rt:=D.rt })=>(oy (tH (pos:=rp) (hb f' E'))).h [] s σ H { nx:=fun _ _=>False,rt:=D.rt } (vf I) ⟨ρ,E,h⟩;refine FR (hbody (fun e s₁=>C_ (A_ X.prog X.w) X.A (LW e X.env) (fun _ s₂=>C_ (A_ X.prog X.w) X.A (setFlight e none) (fun _ s₃=>C_ (A_ X.prog X.w) X.A (handleBy e X.env [.ExceptHandler (some (.Name J np)) (some n) (h0 :: hx) hpos]) (SP X f' D) X.xe s₃) X.xe s₂) X.xe s₁) ?_) (fun fl s1 hs=>?_) fun e s1 hs=>hs
 · unfold pP at o;unfold bb
   match hf:f ρ with
   | none=>rw [hf] at o; exact o.elim
   | some (.ok d)=>rw [hf] at o; exact o
   | some (.exc c) =>
    rw [hf] at o;dsimp only at o;by_cases hcm:c < m
    · rw [if_pos hcm] at o;intro ps σ1 H1 s1 ev same I1 ⟨e,C,he,hC,F⟩;subst he;have fe:H1 e=none:=F.1;have fn:=F.2.1;refine rL (Y:=xj X f' _) I1 hex hst hfm F (E1:=X.xe) (E2:=X.xe) fun h2 Ts a0 k1 k2 k3 k4 k5=>?_;have I1':=I1.pins_of (pins':=[]) fun p hp=>absurd hp (by simp);have hf5:∀ b,b=e∨b∈Ts→H1 b=none∧X.s₀.heap.get? b=none∧(∀ p∈(X.pn ++ f') ++ [],p.1≠b)∧∃ o vs,s1.heap.get? b=some o∧o.data=.fields vs:=fun b hb=>⟨(k5 b hb).1,(k5 b hb).2.1.1,fun p hp=>(k5 b hb).2.1.2 p (by simpa using hp),(k5 b hb).2.2⟩;have I2:=Inv.aft I1' (lP I1 k1 k4) hex hf5;have J2:Inv (kY X f' e) [] σ1 H1 { s1 with heap:=h2 }:=lT (gZ I2);have k3':=k3;obtain ⟨oe,vs,T,oT,ts,t1,⟨t2,t3⟩,t4,_⟩:=k3';obtain ⟨xC,xm⟩:=xk c C hcm hC;refine wpAny_handleBy_cons (codeAny_handlers_test (iR (X:=kY X f' e) J2 hgJ hmJ ?_ hdb)) (by intro z; cases z);refine oY (mg:=fun _=>some (.ref C)) (y:=n) J2.kIn (oR J2.kIn rfl xC) (oR J2.kIn hmJ KJ) t1 t2 xm ?_;show HW _ _ (.handlers (.ref e) [.ExceptHandler none (some n) (h0 :: hx) hpos] X.env) _ _;refine codeAny_handlers_suite_as ?_;refine Ik (s:={ s1 with heap:=h2 }) k1 k2 k3.at fun h3 m1 m2 m3 m4=>?_;have A3:Aft (xj X f' _) e Ts s1.heap h3:=lP I1 m1 fun b o q d=>by
       obtain ⟨sl,q'⟩:=k4 b o q d;exact ⟨sl,m4 b _ q' d⟩
      have I3:=Inv.aft I1' A3 hex hf5;obtain ⟨oe3,vs3,T3,oT3,ts3,u1,⟨u2,u3⟩,u4,_⟩:=m3;have I4:=Inv.freeze I3 fe u1 u4 fn.1 fun p hp=>fn.2 p (by simpa using hp);have J4:Inv (kY X f' e) [] σ1 (upd H1 e (.frz oe3 (.ext fun _=>True))) { s1 with heap:=h3 }:=lT (gZ I4);refine gE (X:=kY X f' e) J4 hN hi (.inl hl) (v:=.ref e) rfl (fun s5 J5=>?_) (.inr hl);have rep:Rep X.K (upd H1 e (.frz oe3 (.ext fun _=>True))) (.exn c) (.ref e):=⟨e,oe3,_,C,rfl,ar,u2,hC⟩;have E5:Envs X.K (upd H1 e (.frz oe3 (.ext fun _=>True))) (σ1.set i (some (.ref e))) ((E6 N none).set i (some (.exn c))):=by
       refine Envs.set (ρ:=E6 N none) ⟨?_,fun j d hj=>?_⟩ rep
       · rw [I1.len,GI]; exact hNl
       · rw [G4] at hj;split at hj <;> cases hj
      match hg:g ((E6 N none).set i (some (.exn c))) with
      | none=>rw [hg] at o; exact o.elim
      | some (.exc c2)=>rw [hg] at o; exact o.elim
      | some (.nx c2)=>rw [hg] at o; exact o.elim
      | some (.rt d) =>
       rw [hg] at o;have hrun:=(hh f' e).h [] s5 _ _ { nx:=fun _ _=>False,rt:=D.rt } J5 ⟨_,E5,(by
        rw [hg];exact fun v H' e1 r=>o v H' ((same.trans (aA fe _)).trans e1) r)⟩
       refine FR hrun (fun fl s6 hs=>?_) fun _ _ z=>z.elim;cases fl with
       | ret u =>
        obtain ⟨v,σ6,H6,J6,rv,q6⟩:=hs;have J7:Inv X f' σ6 H6 s6:=mS I.ok J6;have hil:i < σ6.length:=by rw [J7.len]; exact (E_.mp hi).1
        refine ge (wpAny_bindName (gE J7 hN hi (.inl hl) (v:=.non) rfl (fun s7 J8=>?_) (.inr hl)));exact oX J8 hN hi hl (v:=.non) (E7 hil) fun s8 J9=>⟨v,_,H6,J9,rv,q6⟩
       | next=>obtain ⟨_,_,_,z⟩:=hs; exact FJ z
       | brk=>obtain ⟨_,_,_,z⟩:=hs; exact FJ z
       | cont=>obtain ⟨_,_,_,z⟩:=hs; exact FJ z
    · rw [if_neg hcm] at o;exact o.elim
 · cases fl with
   | ret u =>
    obtain ⟨v,σ',H',I',rv,q⟩:=hs;exact ⟨v,σ',H',gZ I',rv,q⟩
   | next=>obtain ⟨_,_,_,z⟩:=hs; exact FJ z
   | brk=>obtain ⟨_,_,_,z⟩:=hs; exact FJ z
   | cont=>obtain ⟨_,_,_,z⟩:=hs; exact FJ z
end
theorem nh {k:Nat} {A:EQ} {v:d_} (r:Room k A):(A.mark (some v)).units + 64 < cLine:=r.units
end FD
namespace FD
open PySem PySem.Spec PyProof.Rows L2
theorem CZ {c:FnB} {f g:FnS} {ρ:Ev} (h:c ρ=some (.ok c_)):bZ c f g ρ=g ρ:=by
 unfold bZ; rw [h]; rfl
theorem sD {c:FnB} {f g:FnS} {ρ:Ev} (h:c ρ=some (.ok b_)):bZ c f g ρ=f ρ:=by
 unfold bZ; rw [h]; rfl
theorem fY {α:Type} {p:α→Bool} {l:List α} (h:l.all p=b_) {x:α} (hx:x∈l):p x=b_:=r_.mp h x hx
end FD
namespace G
open PySem PySem.Spec PyProof.Rows L2 FD
def top (i:Nat):F_:=PySem.Challenge.pw_notejar_k81_whole_read.main.body.getD i (.Pass ⟨0,0,0,0⟩)
section
variable {X:Cx} {a b c o e:D_} {es:List D_} {fa fb fc fo:FnE} {ga:FnA} {pos p pt apos cpos:Pos}
theorem zG (ha:FE X a fa) (hb:FE X b fb):FE X (.BinOp a .Add b pos) (f2 addD fa fb):=kK o_add yA ha hb
theorem zH (ha:FE X a fa) (hb:FE X b fb):FE X (.BinOp a .Add b pos) (f2 aH fa fb):=kK zd ze ha hb
theorem zI (ha:FE X a fa) (hb:FE X b fb):FE X (.BinOp a .Sub b pos) (f2 oG fa fb):=kK xN B4 ha hb
theorem zJ (ha:FE X a fa) (hb:FE X b fb):FE X (.BinOp a .Mult b pos) (f2 gr fa fb):=kK tj yB ha hb
theorem zK (ha:FE X a fa) (hb:FE X b fb):FE X (.BinOp a .Mod b pos) (f2 fu fa fb):=kK xO B5 ha hb
theorem wb (ha:FE X a fa) (hb:FE X b fb):FE X (.BinOp a .FloorDiv b pos) (f2 fG fa fb):=kK uD yC ha hb
theorem zL (ha:FE X a fa) (hb:FE X b fb):FE X (.BinOp a .Mult b pos) (f2 y9 fa fb):=kK za zb ha hb
theorem zM (hu:X.A.units + 64 < cLine) (ha:FE X a fa) (hb:FE X b fb) (hm:Fk .Eq b=c_:=by kernel_rfl):FT X (.Compare a [.Eq] [b] pos) (fB (f2 eqX fa fb)):=fE (yM hu) yN ha hb hm
theorem zN (hu:X.A.units + 64 < cLine) (ha:FE X a fa) (hb:FE X b fb) (hm:Fk .NotEq b=c_:=by kernel_rfl):FT X (.Compare a [.NotEq] [b] pos) (fB (f2 neX fa fb)):=fE (Cf hu) Cg ha hb hm
theorem zO (ha:FE X a fa) (hb:FE X b fb) (hm:Fk .Lt b=c_:=by kernel_rfl):FT X (.Compare a [.Lt] [b] pos) (fB (f2 ltX fa fb)):=fE Ch Ci ha hb hm
theorem zP (ha:FE X a fa) (hb:FE X b fb) (hm:Fk .Gt b=c_:=by kernel_rfl):FT X (.Compare a [.Gt] [b] pos) (fB (f2 gtD fa fb)):=fE BL (B7 _) ha hb hm
theorem wc (ha:FE X a fa) (hb:FE X b fb) (hm:Fk .IsNot b=c_:=by kernel_rfl):FT X (.Compare a [.IsNot] [b] pos) (fB (f2 mR fa fb)):=fE uE yD ha hb hm
theorem we (hu:X.A.units < cLine) (ha:FE X a fa) (hb:FE X b fb) (hm:Fk .Eq b=c_:=by kernel_rfl):FT X (.Compare a [.Eq] [b] pos) (fB (f2 Bp fa fb)):=fE (Cd hu) Ce ha hb hm
theorem pQ (ha:FE X a fa) (hb:FE X b fb) (hm:Fk .NotIn b=c_:=by kernel_rfl):FT X (.Compare a [.NotIn] [b] pos) (fB (f2 dh fa fb)):=fE o_notIn kQ ha hb hm
theorem zQ (hu:X.A.units + 64 < cLine) (ha:FE X a fa) (hb:FE X b fb) (hm:Fk .In b=c_:=by kernel_rfl):FT X (.Compare a [.In] [b] pos) (fB (f2 inX fa fb)):=fE (Cq hu) Cr ha hb hm
theorem pR (hu:X.A.units + 64 < cLine) (ha:FE X a fa) (hb:FE X b fb) (hm:Fk .NotIn b=c_:=by kernel_rfl):FT X (.Compare a [.NotIn] [b] pos) (fB (f2 fI fa fb)):=fE (rP hu) rQ ha hb hm
theorem zR (hu:X.A.units + 64 < cLine) (ha:FE X a fa) (hb:FE X b fb) (hm:Fk .Eq b=c_:=by kernel_rfl):FE X (.Compare a [.Eq] [b] pos) (f2 eqX fa fb):=jJ (yM hu) yN ha hb hm
theorem zS (ha:FE X a fa) (hb:FE X b fb) (hm:Fk .LtE b=c_:=by kernel_rfl):FE X (.Compare a [.LtE] [b] pos) (f2 leX fa fb):=jJ Cz CB ha hb hm
theorem zT (ha:FE X a fa) (hb:FE X b fb) (hm:Fk .Is b=c_:=by kernel_rfl):FE X (.Compare a [.Is] [b] pos) (f2 isN fa fb):=jJ xQ B8 ha hb hm
theorem zU (ha:FE X a fa) (hb:FE X b fb) (hm:Fk .In b=c_:=by kernel_rfl):FE X (.Compare a [.In] [b] pos) (f2 inD fa fb):=jJ o_in DJ ha hb hm
theorem pS (ha:FE X a fa) (hb:FE X b fb) (hm:Fk .NotIn b=c_:=by kernel_rfl):FE X (.Compare a [.NotIn] [b] pos) (f2 dh fa fb):=jJ o_notIn kQ ha hb hm
theorem zV (hm:X.mg "isinstance"=none) (hn:X.mg "int"=none) (ha:FE X a fa) (hg:X.env.kindOf (a_ "isinstance")=some .globalImplicit:=by kernel_rfl) (hg2:X.env.kindOf (a_ "int")=some .globalImplicit:=by kernel_rfl) (hs1:j_ [a,.Name (a_ "int") pt] X.env=(c_,eval a X.env) :: j_ [.Name (a_ "int") pt] X.env:=by kernel_rfl) (hs2:j_ [.Name (a_ "int") pt] X.env=(c_,eval (.Name (a_ "int") pt) X.env) :: j_ [] X.env:=by kernel_rfl) (hpl:(FV pos (j_ [.Name (a_ "int") pt] X.env)).any (·.1)=c_:=by kernel_rfl):FE X (.Call (.Name "isinstance" p) [a,.Name (a_ "int") pt] [] pos) (f1 (eQ iq) fa):=lO (T:="int") vr zo (by decide +kernel) (by kernel_rfl) hg hm hg2 hn ha hs1 hs2 hpl
theorem zW (hm:X.mg "isinstance"=none) (hn:X.mg "str"=none) (ha:FE X a fa) (hg:X.env.kindOf (a_ "isinstance")=some .globalImplicit:=by kernel_rfl) (hg2:X.env.kindOf (a_ "str")=some .globalImplicit:=by kernel_rfl) (hs1:j_ [a,.Name (a_ "str") pt] X.env=(c_,eval a X.env) :: j_ [.Name (a_ "str") pt] X.env:=by kernel_rfl) (hs2:j_ [.Name (a_ "str") pt] X.env=(c_,eval (.Name (a_ "str") pt) X.env) :: j_ [] X.env:=by kernel_rfl) (hpl:(FV pos (j_ [.Name (a_ "str") pt] X.env)).any (·.1)=c_:=by kernel_rfl):FE X (.Call (.Name "isinstance" p) [a,.Name (a_ "str") pt] [] pos) (f1 (eQ dU) fa):=lO (T:="str") uY yJ (by decide +kernel) (by kernel_rfl) hg hm hg2 hn ha hs1 hs2 hpl
theorem sE (hm:X.mg "isinstance"=none) (hn:X.mg "tuple"=none) (ha:FE X a fa) (hg:X.env.kindOf (a_ "isinstance")=some .globalImplicit:=by kernel_rfl) (hg2:X.env.kindOf (a_ "tuple")=some .globalImplicit:=by kernel_rfl) (hs1:j_ [a,.Name (a_ "tuple") pt] X.env=(c_,eval a X.env) :: j_ [.Name (a_ "tuple") pt] X.env:=by kernel_rfl) (hs2:j_ [.Name (a_ "tuple") pt] X.env=(c_,eval (.Name (a_ "tuple") pt) X.env) :: j_ [] X.env:=by kernel_rfl) (hpl:(FV pos (j_ [.Name (a_ "tuple") pt] X.env)).any (·.1)=c_:=by kernel_rfl):FE X (.Call (.Name "isinstance" p) [a,.Name (a_ "tuple") pt] [] pos) (f1 (eQ eV) fa):=lO (T:="tuple") uZ rz (by decide +kernel) (by kernel_rfl) hg hm hg2 hn ha hs1 hs2 hpl
theorem wf (hm:X.mg "isinstance"=none) (hn:X.mg "bool"=none) (ha:FE X a fa) (hg:X.env.kindOf (a_ "isinstance")=some .globalImplicit:=by kernel_rfl) (hg2:X.env.kindOf (a_ "bool")=some .globalImplicit:=by kernel_rfl) (hs1:j_ [a,.Name (a_ "bool") pt] X.env=(c_,eval a X.env) :: j_ [.Name (a_ "bool") pt] X.env:=by kernel_rfl) (hs2:j_ [.Name (a_ "bool") pt] X.env=(c_,eval (.Name (a_ "bool") pt) X.env) :: j_ [] X.env:=by kernel_rfl) (hpl:(FV pos (j_ [.Name (a_ "bool") pt] X.env)).any (·.1)=c_:=by kernel_rfl):FE X (.Call (.Name "isinstance" p) [a,.Name (a_ "bool") pt] [] pos) (f1 (eQ c9) fa):=lO (T:="bool") rq va (by decide +kernel) (by kernel_rfl) hg hm hg2 hn ha hs1 hs2 hpl
theorem jg (ho:FE X o fo) (ha:FA X (e :: es) ga) (h:SmL X o "startswith" e es apos cpos:=by exact ⟨by kernel_rfl,by kernel_rfl,by kernel_rfl,by kernel_rfl,by kernel_rfl⟩):FE X (.Call (.Attribute o "startswith" apos) (e :: es) [] cpos) (fM (kU uk) fo ga):=pL PySem.F.slot_str_startswith PySem.F.type_str_startswith Cb tM ho ha h
theorem lf (ho:FE X o fo) (ha:FA X (e :: es) ga) (h:SmL X o "endswith" e es apos cpos:=by exact ⟨by kernel_rfl,by kernel_rfl,by kernel_rfl,by kernel_rfl,by kernel_rfl⟩):FE X (.Call (.Attribute o "endswith" apos) (e :: es) [] cpos) (fM (kU HX) fo ga):=pL PySem.F.slot_str_endswith PySem.F.type_str_endswith Cc tM ho ha h
theorem sF (ho:FE X o fo) (ha:FA X (e :: es) ga) (h:SmL X o "split" e es apos cpos:=by exact ⟨by kernel_rfl,by kernel_rfl,by kernel_rfl,by kernel_rfl,by kernel_rfl⟩):FE X (.Call (.Attribute o "split" apos) (e :: es) [] cpos) (fM (bc) fo ga):=pL HS PySem.F.type_str_split rA vb ho ha h
theorem wg (ho:FE X o fo) (ha:FA X (e :: es) ga) (h:SmL X o "join" e es apos cpos:=by exact ⟨by kernel_rfl,by kernel_rfl,by kernel_rfl,by kernel_rfl,by kernel_rfl⟩):FE X (.Call (.Attribute o "join" apos) (e :: es) [] cpos) (fM (cH) fo ga):=pL PySem.F.slot_str_join PySem.F.type_str_join vc yP ho ha h
theorem j5 (ho:FE X o fo) (ha:FA X (e :: es) ga) (h:SmL X o "partition" e es apos cpos:=by exact ⟨by kernel_rfl,by kernel_rfl,by kernel_rfl,by kernel_rfl,by kernel_rfl⟩):FE X (.Call (.Attribute o "partition" apos) (e :: es) [] cpos) (fM (kW) fo ga):=pL JK PySem.F.type_str_partition vd yR ho ha h
theorem dN {x:Str} (h:FE X (.Name x p) fa):FE X (.Name x p) fa:=h
theorem dC {k:Const} {n:Nat} (h:FE X (.Constant k n p) fa):FE X (.Constant k n p) fa:=h
theorem dA (h:FA X es ga):FA X es ga:=h
theorem dK {x:Str} {ks:List Hz} (h:FE X (.Call (.Name x p) es ks pos) fa):FE X (.Call (.Name x p) es ks pos) fa:=h
theorem dM {x:Str} {ks:List Hz} (h:FE X (.Call (.Attribute o x p) es ks pos) fa):FE X (.Call (.Attribute o x p) es ks pos) fa:=h
theorem dB {op:Operator} (h:FE X (.BinOp a op b pos) fa):FE X (.BinOp a op b pos) fa:=h
theorem dQ {ops:List CmpOp} (h:FE X (.Compare a ops es pos) fa):FE X (.Compare a ops es pos) fa:=h
theorem dT {fb:FnB} (h:FT X a fb):FT X a fb:=h
theorem dW {fb:FnB} (h:FW X a fb):FW X a fb:=h
theorem dE (h:FE X a fa):FE X a fa:=h
theorem dSs {st:List F_} {f:FnS} (h:FSs X st f):FSs X st f:=h
theorem dS {st:F_} {f:FnS} (h:FS X st f):FS X st f:=h
end
local macro_rules | `(tactic| walk_at "x")=>`(tactic| (first
 | with_reducible (refine dN ?_; first
  | exact BX _ (by kernel_rfl) (by kernel_rfl!)
  | exact BY _ (by kernel_rfl) (by kernel_rfl!)
  | exact CN (by with_unfolding_all assumption) (by kernel_rfl!)
  | exact CO (by with_unfolding_all assumption) (by kernel_rfl!))
 | with_reducible (refine dC ?_; first
  | exact tE
  | exact yg
  | exact BZ
  | exact yf)
 | with_reducible (refine dA ?_; first
  | exact ow
  | refine kM ?_ ?_)
 | with_reducible (refine dK ?_; first
  | refine sm (by with_unfolding_all assumption) (by with_unfolding_all assumption) (by kernel_rfl!) ?_
  | refine pJ (by with_unfolding_all assumption) (by with_unfolding_all assumption) (by kernel_rfl!) (by kernel_rfl) ?_
  | refine m7 ?_ (by kernel_rfl) (glb (by kernel_rfl)) ?_ (glb (by kernel_rfl)) ?_ ?_
  | refine pO (by with_unfolding_all assumption) (by with_unfolding_all assumption) (by kernel_rfl!) ?_
  | refine yH (glb (by kernel_rfl)) ?_ ?_
  | refine rB (glb (by kernel_rfl)) ?_ ?_
  | refine rY (glb (by kernel_rfl)) ?_ ?_
  | refine sC (glb (by kernel_rfl)) ?_ ?_
  | refine vt (glb (by kernel_rfl)) ?_ ?_
  | refine yI (by kernel_rfl) (glb (by kernel_rfl)) ?_ ?_
  | refine zV ?_ ?_ ?_
  | refine zW ?_ ?_ ?_
  | refine sE ?_ ?_ ?_
  | refine wf ?_ ?_ ?_
  | refine y6 (T:="ValueError") (by with_unfolding_all exact XAllS.xtV (by assumption)) i4 (by decide +kernel) (by kernel_rfl) (glb (by kernel_rfl)) ?_ (glb (by kernel_rfl)) ?_ ?_
  | refine y4 (by with_unfolding_all exact XAllS.xtO (by assumption) _ (by decide)) (by with_unfolding_all exact CA.c (by assumption) (by decide) rfl) (glb (by kernel_rfl)) (by kernel_rfl) (glb (by kernel_rfl)) ?_ ?_)
 | with_reducible (refine dM ?_; first
  | refine jg ?_ ?_
  | refine lf ?_ ?_
  | refine sF ?_ ?_
  | refine wg ?_ ?_
  | refine j5 ?_ ?_)
 | with_reducible (refine dB ?_; first
  | refine zG ?_ ?_
  | refine zH ?_ ?_
  | refine zI ?_ ?_
  | refine zJ ?_ ?_
  | refine zK ?_ ?_
  | refine wb ?_ ?_
  | refine zL ?_ ?_)
 | with_reducible (refine dQ ?_; first
  | refine zR ?_ ?_ ?_
  | refine zS ?_ ?_
  | refine zT ?_ ?_
  | refine zU ?_ ?_
  | refine pS ?_ ?_)
 | with_reducible (refine dT ?_; first
  | refine zM ?_ ?_ ?_
  | refine zN ?_ ?_ ?_
  | refine zO ?_ ?_
  | refine zP ?_ ?_
  | refine wc ?_ ?_
  | refine we ?_ ?_ ?_
  | refine pQ ?_ ?_
  | refine zQ ?_ ?_ ?_
  | refine pR ?_ ?_ ?_
  | refine FW.ft (tG ?_ ?_)
  | refine FW.ft (yj ?_ ?_)
  | refine yk ?_
  | refine yh ?_)
 | with_reducible (refine dW ?_; first
  | refine tG ?_ ?_
  | refine yj ?_ ?_
  | refine uP ?_
  | refine yi ?_)
 | with_reducible (refine dE ?_; first
  | refine zD ?_ ?_
  | refine yr ?_
  | refine yq ?_
  | refine ym ?_
  | refine yn ?_ ?_
  | refine B0 ?_ ?_
  | refine yo ?_
  | refine tJ ?_
  | refine B1 ?_ ?_ ?_
  | refine sB ?_
  | refine yG ?_ ?_ ?_
  | refine vi ?_ ?_ ?_
  | refine CP ?_ ?_ ?_)
 | with_reducible (refine dSs ?_; first
  | exact uQ
  | refine oy ?_
  | refine sw ?_ ?_ ?_
  | refine sv ?_ ?_
  | refine q8 ?_ ?_)
 | with_reducible (refine dS ?_; first
  | refine tH ?_
  | refine B2 ?_ ?_ ?_
  | refine uR ?_
  | refine CS ?_ ?_ ?_ (by kernel_rfl!)
  | refine vL ?_
  | refine vP ?_ ?_ ?_
  | refine rG _ (by with_unfolding_all exact XAllS.xc (by assumption) _ (by decide)) (by kernel_rfl) (by with_unfolding_all exact CA.c (by assumption) (by decide) rfl) (by kernel_rfl) (by kernel_rfl) (glb (by kernel_rfl)) ?_
  | refine wa _ _ _ (by kernel_rfl) (by kernel_rfl) (by kernel_rfl) (glb (by kernel_rfl)) (by with_unfolding_all exact CA.j (by assumption)) (by with_unfolding_all exact XAllS.exJ (by assumption)) (by with_unfolding_all exact CA.xk (by assumption)) (gD (by kernel_rfl)) (by kernel_rfl) (by kernel_rfl) (by kernel_rfl) ?_ ?_)
 | with_reducible exact uV
 | with_reducible refine uW ?_
 | with_reducible exact ss
 | with_reducible refine su ?_
 | with_reducible intro _ _ _ _
 | with_reducible refine oA (glb (by kernel_rfl)) ?_ ?_
 | with_reducible refine oD (glb (by kernel_rfl)) ?_ ?_
 | with_reducible refine yx ?_
 | with_reducible refine FI.toG ?_
 | with_reducible intro _ _
 | with_reducible exact vn
 | with_reducible refine vG ?_
 | with_reducible refine vo ?_
 | with_reducible refine rR ?_ ?_
 | with_reducible refine zk ?_
 | with_reducible refine zj ?_ ?_ ?_
 | with_reducible refine Cy (by kernel_rfl) ?_ ?_ ?_
 | with_reducible refine vT ?_ (pK (by kernel_rfl) (by kernel_rfl) (by kernel_rfl) (by kernel_rfl))
 | with_reducible refine rX (by kernel_rfl) (pK (by kernel_rfl) (by kernel_rfl) (by kernel_rfl) (by kernel_rfl)) ?_ ?_
 | with_reducible refine vO ?_
 | with_reducible refine sA ?_ ?_ ?_
 | with_reducible refine vY ?_
 | with_reducible refine vQ ?_ ?_ ?_
 | assumption
 | exact MA.no (by assumption) (by kernel_rfl)
 | exact Room.units (by assumption)
 | with_unfolding_all exact nh (by assumption)
 | exact Room.units0 (by assumption)
 | exact PassesOwn.never
 | exact PassesOwn.leaving) <;> walk_at "x")
local macro_rules | `(tactic| walk_at "b")=>`(tactic| (intros; (conv=>arg 2; whnf); walk_at "x"))
local macro_rules | `(tactic| walk_at "d")=>`(tactic| (intro _ _ _ _ _ _ us hl; rcases us with _ | ⟨_,_ | ⟨_,_ | ⟨_,_ | ⟨_,_ | ⟨_,_ | ⟨_,_ | ⟨_,_ | ⟨_,us⟩⟩⟩⟩⟩⟩⟩⟩ <;> first | rfl | cases hl))
def CC:zA:=[cN "ValueError",cN "all",cN "bool",cN "int",cN "isinstance",cN "len",cN "range",cN "set",cN "str",cN "tuple",cS "FIGURES" "0123456789",cS "LABEL_SIGNS" "abcdefghijklmnopqrstuvwxyz0123456789-",cI "LAST_MOMENT" 9999,cI "LONGEST_LABEL" 8,cI "LONGEST_NOTE_NAME" 10,cI "LONGEST_PATH" 20,cI "LONGEST_WORTH" 12,cI "MOST_FIGURES" 4,cI "MOST_LABELS" 5,cI "MOST_NOTES" 20,cI "NOTE_ENDS" 5,cI "NOTE_EXACT" 3,cI "NOTE_HOUSE" 2,cI "NOTE_MADE" 8,cI "NOTE_NAME" 0,cS "NOTE_NAME_SIGNS" "abcdefghijklmnopqrstuvwxyzABCDEFGHIJKLMNOPQRSTUVWXYZ0123456789-_",cI "NOTE_PARTS" 10,cI "NOTE_PATH" 4,cI "NOTE_REACH" 7,cI "NOTE_SAFE" 6,cI "NOTE_USED" 9,cI "NOTE_WORTH" 1,cS "NO_WORTH_SIGNS" ";,=",cS "PATH_SIGNS" "abcdefghijklmnopqrstuvwxyz0123456789-_./"]
section
variable {P:pi} {w:EO} {K:ck} {mg:Str→Option d_} {base h:Fg} {f:k_} {cls:Nat→k_} {CJ:k_} (XI:K.In h) (Gn:h.Ns x_ mg) (M:MA mg CC) (xa:XAllS K [4,5,7] cls CJ) (ca:CA K mg cls CJ [4,5,7] 8)
include XI Gn M xa ca
def T0:dz:=[]
def TE0:dz:=[]
def cM:FnS:=(aG (bZ (fB (f2 Bp (ac 0) (bD ag))) (bb (f2 gr (fC (.int 7)) (ac 1))) (fun ρ=>some (.nx ρ))) (bb (f2 addD (f2 ixD (ac 0) (f2 fu (ac 1) (fB1 bA (aa (ac 0) ag)))) (f2 gr (fC (.int 6553)) (f2 fG (ac 1) (fB1 bA (aa (ac 0) ag)))))))
def bG:List Dv→Option (Rs Dv):=c8 2 cM
def T1:dz:=("_law_cell",1,["_law_script","_law_k"],bG) :: T0
theorem j6 (A:Af K "_law_cell" (top 62) f) (t:HA P w K mg base T0):HA P w K mg base T1 :=
 aF (aQ XI Gn ["_law_script","_law_k"] ["_law_script","_law_k"] cM A (by walk_at "d") (by delta cM; walk_at "b")) t
def bL:FnS:=(aG (bn 3 (f2 fu (f2 addD (f2 gr (f2 fu (aj bG 2 (aa (ac 0) (aa (ac 1) ag))) (fC (.int 2147483563))) (fC (.int 69069))) (f2 gr (fC (.int 104723)) (f2 addD (ac 1) (fC (.int 1))))) (fC (.int 2147483563)))) (aG (bn 3 (f2 fu (f2 addD (f2 gr (ac 3) (ac 3)) (f2 fG (ac 3) (fC (.int 3)))) (fC (.int 2147483399)))) (bb (f2 fu (f2 fG (f2 fu (f2 addD (f2 gr (ac 3) (ac 3)) (f2 fG (ac 3) (fC (.int 7)))) (fC (.int 2147483647))) (fC (.int 11))) (ac 2)))))
def ah:List Dv→Option (Rs Dv):=c8 4 bL
def T2:dz:=("_law_drawn",2,["_law_script","_law_k","_law_many"],ah) :: T1
theorem jh (A:Af K "_law_drawn" (top 63) f) (t:HA P w K mg base T1):HA P w K mg base T2 :=
 aF (aQ XI Gn ["_law_script","_law_k","_law_many","_law_cell_here"] ["_law_script","_law_k","_law_many"] bL A (by walk_at "d") (by delta bL; walk_at "b")) t
def bN:FnS:=(aG (bZ (bOr (fB (f2 eqX (ac 0) (bD ag))) (dL (fB (fM (kU uk) (f2 ixD (ac 0) (fC (.int 0))) (aa (f2 addD (ac 1) (fC (.str " "))) ag))))) (bb (f1 gA (fC (.int 1)))) (fun ρ=>some (.nx ρ))) (aG (bn 2 (lM (f2 ixD (ac 0) (fC (.int 0))) (am (f2 addD (fB1 bA (aa (ac 1) ag)) (fC (.int 1)))) au)) (aG (bZ (bOr (fB (f2 eqX (ac 2) (fC (.str "")))) (bOr (fB (f2 gtD (fB1 bA (aa (ac 2) ag)) (fC (.int 4)))) (fB (f2 neX (cz [] (cp (ac 2)) (some (fB (f2 dh (ac 0) (fC (.str "0123456789"))))) (ac 0)) (bD ag))))) (bb (f1 gA (fC (.int 1)))) (fun ρ=>some (.nx ρ))) (bb (fIf (fB (f2 eqX (ac 2) (fB1 nz (aa (fB1 qM (aa (ac 2) ag)) ag)))) (fB1 qM (aa (ac 2) ag)) (f1 gA (fC (.int 1))))))))
def ax:List Dv→Option (Rs Dv):=c8 3 bN
def T3:dz:=("_law_moment",1,["_law_parts","_law_word"],ax) :: T2
theorem iu (A:Af K "_law_moment" (top 70) f) (t:HA P w K mg base T2):HA P w K mg base T3 :=
 aF (aQ XI Gn ["_law_parts","_law_word","_law_figures"] ["_law_parts","_law_word"] bN A (by walk_at "d") (by delta bN; walk_at "b")) t
def cO:FnS:=(aG (bn 1 (fM (bc) (ac 0) (aa (fC (.str "; ")) ag))) (aG (bn 2 (fM (bc) (f2 ixD (ac 1) (fC (.int 0))) (aa (fC (.str "=")) ag))) (aG (bZ (bOr (fB (f2 ltX (fB1 bA (aa (ac 1) ag)) (fC (.int 5)))) (bOr (fB (f2 neX (fB1 bA (aa (ac 2) ag)) (fC (.int 2)))) (dL (fB (fM (kU uk) (f2 ixD (ac 1) (fC (.int 2))) (aa (fC (.str "under ")) ag)))))) (bb (fC .non)) (fun ρ=>some (.nx ρ))) (aG (bn 3 (f2 ixD (fM (bc) (f2 ixD (ac 1) (fC (.int 1))) (aa (fC (.str " ")) ag)) (fC (.int 0)))) (aG (bZ (bOr (fB (f2 fI (ac 3) (df (aa (fC (.str "only")) (aa (fC (.str "for")) ag))))) (fB (f2 fI (fC (.str " ")) (f2 ixD (ac 1) (fC (.int 1)))))) (bb (fC .non)) (fun ρ=>some (.nx ρ))) (aG (bn 4 (aw (ac 1) (am (fC (.int 3))) au)) (aG (bn 5 (fC .non)) (aG (bZ (fB (fM (kU uk) (f2 ixD (ac 4) (fC (.int 0))) (aa (fC (.str "until ")) ag))) (aG (bn 5 (aj ax 2 (aa (ac 4) (aa (fC (.str "until")) ag)))) (bn 4 (aw (ac 4) (am (fC (.int 1))) au))) (fun ρ=>some (.nx ρ))) (aG (bn 6 (f2 eqX (aw (ac 4) au (am (fC (.int 1)))) (bD (aa (fC (.str "safe")) ag)))) (aG (bn 4 (aw (ac 4) (am (fB1 v9 (aa (ac 6) ag))) au)) (aG (bn 7 (f2 eqX (aw (ac 4) au (am (fC (.int 1)))) (bD (aa (fC (.str "near")) ag)))) (aG (bn 4 (aw (ac 4) (am (fB1 v9 (aa (ac 7) ag))) au)) (aG (bn 8 (df (aa (aj ax 2 (aa (ac 4) (aa (fC (.str "made")) ag))) (aa (aj ax 2 (aa (aw (ac 4) (am (fC (.int 1))) au) (aa (fC (.str "used")) ag))) ag)))) (aG (bZ (bOr (fB (f2 neX (fB1 bA (aa (ac 4) ag)) (fC (.int 2)))) (bOr (fB (f2 inX (f1 gA (fC (.int 1))) (ac 8))) (fB (f2 eqX (ac 5) (f1 gA (fC (.int 1))))))) (bb (fC .non)) (fun ρ=>some (.nx ρ))) (aG (bn 9 (df (aa (f2 ixD (ac 2) (fC (.int 0))) (aa (f2 ixD (ac 2) (fC (.int 1))) (aa (aw (f2 ixD (ac 1) (fC (.int 1))) (am (f2 aH (fB1 bA (aa (ac 3) ag)) (fC (.int 1)))) au) (aa (f2 eqX (ac 3) (fC (.str "only"))) (aa (aw (f2 ixD (ac 1) (fC (.int 2))) (am (fC (.int 6))) au) (aa (ac 5) (aa (ac 6) ag))))))))) (bb (f2 aH (f2 aH (ac 9) (df (aa (fIf (fB (ac 7)) (fC (.str "near")) (fC (.str "any"))) ag))) (ac 8))))))))))))))))))
def bu:List Dv→Option (Rs Dv):=c8 10 cO
def T4:dz:=("_law_note",2,["_law_line"],bu) :: T3
theorem j7 (A:Af K "_law_note" (top 71) f) (t:HA P w K mg base T3):HA P w K mg base T4 :=
 aF (aQ XI Gn ["_law_line","_law_parts","_law_sides","_law_word","_law_rest","_law_ends","_law_safe","_law_near","_law_moments","_law_head"] ["_law_line"] cO A (by walk_at "d") (by delta cO; walk_at "b")) t
def sG:FnS:=(bb (df (aa (f2 ixD (ac 0) (fC (.int 0))) (aa (f2 ixD (ac 0) (fC (.int 2))) (aa (f2 ixD (ac 0) (fC (.int 4))) ag)))))
def ni:List Dv→Option (Rs Dv):=c8 1 sG
def T5:dz:=("key",1,["note"],ni) :: T4
theorem zX (A:Af K "key" (top 47) f) (t:HA P w K mg base T4):HA P w K mg base T5 :=
 aF (aQ XI Gn ["note"] ["note"] sG A (by walk_at "d") (by delta sG; walk_at "b")) t
def aR:FnS:=(aG (bn 1 (cK 1 [] (cp (ac 0)) (gN 0) none (aj ni 1 (aa (ac 0) ag)))) (bb (f2 eqX (fB1 ib (aa (ac 1) ag)) (fB1 bA (aa (ac 1) ag)))))
def bq:List Dv→Option (Rs Dv):=c8 2 aR
def T6:dz:=("has_no_key_twice",2,["notes"],bq) :: T5
theorem eY (A:Af K "has_no_key_twice" (top 52) f) (t:HA P w K mg base T5):HA P w K mg base T6 :=
 aF (aQ XI Gn ["notes","keys"] ["notes"] aR A (by walk_at "d") (by delta aR; walk_at "b")) t
def d5:FnS:=(bb (fB1 iW (aa (cz [("notes",0)] (fun ρ=>bnd ((aa (fC (.int 1)) (aa (fB1 bA (aa (ac 0) ag)) ag)) ρ) rf) none (f2 leX (f2 ixD (f2 ixD (ac 1) (f2 oG (ac 0) (fC (.int 1)))) (fC (.int 8))) (f2 ixD (f2 ixD (ac 1) (ac 0)) (fC (.int 8))))) ag)))
def da:List Dv→Option (Rs Dv):=c8 1 d5
def T7:dz:=("is_by_made",1,["notes"],da) :: T6
theorem ji (A:Af K "is_by_made" (top 51) f) (t:HA P w K mg base T6):HA P w K mg base T7 :=
 aF (aQ XI Gn ["notes"] ["notes"] d5 A (by walk_at "d") (by delta d5; walk_at "b")) t
def aX:FnS:=(aG (bZ (bOr (dL (fB (f1 (eQ iq) (ac 0)))) (fB (f1 (eQ c9) (ac 0)))) (bb (fC (.bl c_))) (fun ρ=>some (.nx ρ))) (bb (ip (f2 leX (ac 1) (ac 0)) (f2 leX (ac 0) (ac 2)))))
def aY:List Dv→Option (Rs Dv):=c8 3 aX
def T8:dz:=("is_whole_number",1,["thing","least","most"],aY) :: T7
theorem fN (A:Af K "is_whole_number" (top 7) f) (t:HA P w K mg base T7):HA P w K mg base T8 :=
 aF (aQ XI Gn ["thing","least","most"] ["thing","least","most"] aX A (by walk_at "d") (by delta aX; walk_at "b")) t
def dG:FnS:=(bb (aj aY 3 (aa (ac 0) (aa (fC (.int 0)) (aa (fC (.int 9999)) ag)))))
def aN:List Dv→Option (Rs Dv):=c8 1 dG
def T9:dz:=("is_moment",2,["thing"],aN) :: T8
theorem j8 (A:Af K "is_moment" (top 22) f) (t:HA P w K mg base T8):HA P w K mg base T9 :=
 aF (aQ XI Gn ["thing"] ["thing"] dG A (by walk_at "d") (by delta dG; walk_at "b")) t
def aC:FnS:=(bb (vOr (f2 isN (ac 0) (fC .non)) (aj aN 1 (aa (ac 0) ag))))
def az:List Dv→Option (Rs Dv):=c8 1 aC
def T10:dz:=("is_moment_or_none",3,["thing"],az) :: T9
theorem eM (A:Af K "is_moment_or_none" (top 23) f) (t:HA P w K mg base T9):HA P w K mg base T10 :=
 aF (aQ XI Gn ["thing"] ["thing"] aC A (by walk_at "d") (by delta aC; walk_at "b")) t
def cr:FnS:=(aG (bZ (dL (fB (f1 (eQ dU) (ac 0)))) (bb (fC (.bl c_))) (fun ρ=>some (.nx ρ))) (aG (bZ (bOr (fB (f2 ltX (fB1 bA (aa (ac 0) ag)) (ac 2))) (fB (f2 gtD (fB1 bA (aa (ac 0) ag)) (ac 3)))) (bb (fC (.bl c_))) (fun ρ=>some (.nx ρ))) (bb (fB1 iW (aa (cz [("signs",1)] (cp (ac 0)) none (f2 inD (ac 0) (ac 1))) ag)))))
def aD:List Dv→Option (Rs Dv):=c8 4 cr
def T11:dz:=("is_text_of",1,["thing","signs","least","most"],aD) :: T10
theorem jj (A:Af K "is_text_of" (top 6) f) (t:HA P w K mg base T10):HA P w K mg base T11 :=
 aF (aQ XI Gn ["thing","signs","least","most"] ["thing","signs","least","most"] cr A (by walk_at "d") (by delta cr; walk_at "b")) t
def dk:FnS:=(aG (bZ (dL (fB (aj aD 4 (aa (ac 0) (aa (fC (.str "abcdefghijklmnopqrstuvwxyz0123456789-")) (aa (fC (.int 1)) (aa (fC (.int 8)) ag))))))) (bb (fC (.bl c_))) (fun ρ=>some (.nx ρ))) (bb (ip (mP (fM (kU uk) (ac 0) (aa (fC (.str "-")) ag))) (mP (fM (kU HX) (ac 0) (aa (fC (.str "-")) ag))))))
def bU:List Dv→Option (Rs Dv):=c8 1 dk
def T12:dz:=("is_label",2,["thing"],bU) :: T11
theorem lg (A:Af K "is_label" (top 14) f) (t:HA P w K mg base T11):HA P w K mg base T12 :=
 aF (aQ XI Gn ["thing"] ["thing"] dk A (by walk_at "d") (by delta dk; walk_at "b")) t
def ef:FnS:=(aG (bZ (dL (fB (f1 (eQ dU) (ac 0)))) (bb (fC (.bl c_))) (fun ρ=>some (.nx ρ))) (aG (bn 1 (fM (bc) (ac 0) (aa (fC (.str ".")) ag))) (aG (bZ (bOr (fB (f2 gtD (fB1 bA (aa (ac 1) ag)) (fC (.int 5)))) (dL (fB (fB1 iW (aa (cz [] (cp (ac 1)) none (aj bU 1 (aa (ac 0) ag))) ag))))) (bb (fC (.bl c_))) (fun ρ=>some (.nx ρ))) (bb (mP (aj aD 4 (aa (f2 ixD (ac 1) (f1 gA (fC (.int 1)))) (aa (fC (.str "0123456789")) (aa (fC (.int 1)) (aa (fC (.int 8)) ag))))))))))
def cu:List Dv→Option (Rs Dv):=c8 2 ef
def T13:dz:=("is_name",3,["thing"],cu) :: T12
theorem nj (A:Af K "is_name" (top 15) f) (t:HA P w K mg base T12):HA P w K mg base T13 :=
 aF (aQ XI Gn ["thing","parts"] ["thing"] ef A (by walk_at "d") (by delta ef; walk_at "b")) t
def bB:FnS:=(bb (aj aD 4 (aa (ac 0) (aa (fC (.str "abcdefghijklmnopqrstuvwxyzABCDEFGHIJKLMNOPQRSTUVWXYZ0123456789-_")) (aa (fC (.int 1)) (aa (fC (.int 10)) ag))))))
def bC:List Dv→Option (Rs Dv):=c8 1 bB
def T14:dz:=("is_note_name",2,["thing"],bC) :: T13
theorem ie (A:Af K "is_note_name" (top 30) f) (t:HA P w K mg base T13):HA P w K mg base T14 :=
 aF (aQ XI Gn ["thing"] ["thing"] bB A (by walk_at "d") (by delta bB; walk_at "b")) t
def ei:FnS:=(bb (ip (aj aD 4 (aa (ac 0) (aa (fC (.str "abcdefghijklmnopqrstuvwxyz0123456789-_./")) (aa (fC (.int 1)) (aa (fC (.int 20)) ag))))) (fM (kU uk) (ac 0) (aa (fC (.str "/")) ag))))
def cw:List Dv→Option (Rs Dv):=c8 1 ei
def T15:dz:=("is_path",2,["thing"],cw) :: T14
theorem nk (A:Af K "is_path" (top 19) f) (t:HA P w K mg base T14):HA P w K mg base T15 :=
 aF (aQ XI Gn ["thing"] ["thing"] ei A (by walk_at "d") (by delta ei; walk_at "b")) t
def fZ:FnS:=(bb (vOr (f2 eqX (ac 0) (fC (.str "any"))) (f2 eqX (ac 0) (fC (.str "near")))))
def dq:List Dv→Option (Rs Dv):=c8 1 fZ
def T16:dz:=("is_reach",1,["thing"],dq) :: T15
theorem lh (A:Af K "is_reach" (top 32) f) (t:HA P w K mg base T15):HA P w K mg base T16 :=
 aF (aQ XI Gn ["thing"] ["thing"] fZ A (by walk_at "d") (by delta fZ; walk_at "b")) t
def dH:FnS:=(bb (ip (f1 (eQ eV) (ac 0)) (f2 eqX (fB1 bA (aa (ac 0) ag)) (ac 1))))
def bO:List Dv→Option (Rs Dv):=c8 2 dH
def T17:dz:=("is_tuple_of",1,["thing","parts"],bO) :: T16
theorem iw (A:Af K "is_tuple_of" (top 8) f) (t:HA P w K mg base T16):HA P w K mg base T17 :=
 aF (aQ XI Gn ["thing","parts"] ["thing","parts"] dH A (by walk_at "d") (by delta dH; walk_at "b")) t
def dt:FnS:=(aG (bZ (bOr (dL (fB (f1 (eQ dU) (ac 0)))) (fB (f2 gtD (fB1 bA (aa (ac 0) ag)) (fC (.int 12))))) (bb (fC (.bl c_))) (fun ρ=>some (.nx ρ))) (bb (fB1 iW (aa (cz [] (cp (ac 0)) none (ip (f2 leX (fC (.str "!")) (ac 0)) (ip (f2 leX (ac 0) (fC (.str "~"))) (f2 dh (ac 0) (fC (.str ";,=")))))) ag))))
def du:List Dv→Option (Rs Dv):=c8 1 dt
def T18:dz:=("is_worth",1,["thing"],du) :: T17
theorem li (A:Af K "is_worth" (top 31) f) (t:HA P w K mg base T17):HA P w K mg base T18 :=
 aF (aQ XI Gn ["thing"] ["thing"] dt A (by walk_at "d") (by delta dt; walk_at "b")) t
def dv:FnS:=(aG (bZ (dL (fB (aj bO 2 (aa (ac 0) (aa (fC (.int 10)) ag))))) (bb (fC (.bl c_))) (fun ρ=>some (.nx ρ))) (aG (bZ (bOr (dL (fB (aj aN 1 (aa (f2 ixD (ac 0) (fC (.int 8))) ag)))) (dL (fB (aj aN 1 (aa (f2 ixD (ac 0) (fC (.int 9))) ag))))) (bb (fC (.bl c_))) (fun ρ=>some (.nx ρ))) (bb (fB1 iW (aa (bD (aa (aj bC 1 (aa (f2 ixD (ac 0) (fC (.int 0))) ag)) (aa (aj du 1 (aa (f2 ixD (ac 0) (fC (.int 1))) ag)) (aa (aj cu 1 (aa (f2 ixD (ac 0) (fC (.int 2))) ag)) (aa (f1 (eQ c9) (f2 ixD (ac 0) (fC (.int 3)))) (aa (aj cw 1 (aa (f2 ixD (ac 0) (fC (.int 4))) ag)) (aa (aj az 1 (aa (f2 ixD (ac 0) (fC (.int 5))) ag)) (aa (f1 (eQ c9) (f2 ixD (ac 0) (fC (.int 6)))) (aa (aj dq 1 (aa (f2 ixD (ac 0) (fC (.int 7))) ag)) (aa (f2 leX (f2 ixD (ac 0) (fC (.int 8))) (f2 ixD (ac 0) (fC (.int 9)))) ag)))))))))) ag)))))
def aS:List Dv→Option (Rs Dv):=c8 1 dv
def T19:dz:=("is_note",4,["thing"],aS) :: T18
theorem nn (A:Af K "is_note" (top 46) f) (t:HA P w K mg base T18):HA P w K mg base T19 :=
 aF (aQ XI Gn ["thing"] ["thing"] dv A (by walk_at "d") (by delta dv; walk_at "b")) t
def cD:FnS:=(aG (bZ (bOr (dL (fB (f1 (eQ eV) (ac 0)))) (fB (f2 gtD (fB1 bA (aa (ac 0) ag)) (fC (.int 20))))) (bb (fC (.bl c_))) (fun ρ=>some (.nx ρ))) (aG (bZ (dL (fB (fB1 iW (aa (cz [] (cp (ac 0)) none (aj aS 1 (aa (ac 0) ag))) ag)))) (bb (fC (.bl c_))) (fun ρ=>some (.nx ρ))) (bb (ip (aj da 1 (aa (ac 0) ag)) (aj bq 1 (aa (ac 0) ag))))))
def bg:List Dv→Option (Rs Dv):=c8 1 cD
def T20:dz:=("is_jar",5,["thing"],bg) :: T19
theorem pU (A:Af K "is_jar" (top 50) f) (t:HA P w K mg base T19):HA P w K mg base T20 :=
 aF (aQ XI Gn ["thing"] ["thing"] cD A (by walk_at "d") (by delta cD; walk_at "b")) t
def dw:FnS:=(aG (bn 1 (fM (bc) (ac 0) (aa (fC (.str "\n")) ag))) (aG (bn 2 (fB1 dO (aa (cz [] (cp (aw (ac 1) au (am (f1 gA (fC (.int 1)))))) none (aj bu 1 (aa (ac 0) ag))) ag))) (bb (fIf (kz (fB (f2 eqX (f2 ixD (ac 1) (f1 gA (fC (.int 1)))) (fC (.str "")))) (fB (aj bg 1 (aa (ac 2) ag)))) (ac 2) (fC .non)))))
def bM:List Dv→Option (Rs Dv):=c8 3 dw
def T21:dz:=("_law_due",6,["_law_text"],bM) :: T20
theorem lj (A:Af K "_law_due" (top 72) f) (t:HA P w K mg base T20):HA P w K mg base T21 :=
 aF (aQ XI Gn ["_law_text","_law_lines","_law_found"] ["_law_text"] dw A (by walk_at "d") (by delta dw; walk_at "b")) t
def eZ:FnS:=(aG (bn 2 (bD (aa (fC (.str "a.b")) (aa (fC (.str "b")) (aa (fC (.str "x.a.b")) (aa (fC (.str "y.x.a.b")) (aa (fC (.str "c.uk")) (aa (fC (.str "uk")) (aa (fC (.str "d.c.uk")) (aa (fC (.str "e.d.c.uk")) ag)))))))))) (aG (bn 2 (f2 addD (ac 2) (bD (aa (fC (.str "w.ck")) (aa (fC (.str "v.w.ck")) (aa (fC (.str "ck")) (aa (fC (.str "g-1.a.b")) (aa (fC (.str "7.b")) (aa (fC (.str "p.q")) ag))))))))) (bb (f2 ixD (ac 2) (aj ah 3 (aa (ac 0) (aa (ac 1) (aa (fB1 bA (aa (ac 2) ag)) ag))))))))
def cP:List Dv→Option (Rs Dv):=c8 3 eZ
def T22:dz:=("_law_name",3,["_law_script","_law_at"],cP) :: T21
theorem j9 (A:Af K "_law_name" (top 64) f) (t:HA P w K mg base T21):HA P w K mg base T22 :=
 aF (aQ XI Gn ["_law_script","_law_at","_law_some"] ["_law_script","_law_at"] eZ A (by walk_at "d") (by delta eZ; walk_at "b")) t
def fg : FnS := (aG (bn 2 (bD (aa (fC (.str "/")) (aa (fC (.str "/x")) (aa (fC (.str "/x/")) (aa (fC (.str "/x/y")) (aa (fC (.str "/xy")) (aa (fC (.str "/x/y/z.q")) (aa (fC (.str "//")) (aa (fC (.str "/-_.9")) (aa (fC (.str "/x/y/")) ag))))))))))) (bb (f2 ixD (ac 2) (aj ah 3 (aa (ac 0) (aa (ac 1) (aa (fB1 bA (aa (ac 2) ag)) ag)))))))
def cQ:List Dv→Option (Rs Dv):=c8 3 fg
def T23:dz:=("_law_path",3,["_law_script","_law_at"],cQ) :: T22
theorem ka (A:Af K "_law_path" (top 66) f) (t:HA P w K mg base T22):HA P w K mg base T23 :=
 aF (aQ XI Gn ["_law_script","_law_at","_law_some"] ["_law_script","_law_at"] fg A (by walk_at "d") (by delta fg; walk_at "b")) t
def aM:dD:=(bK (dj 6 (f2 aH (f2 aH (ac 1) (fC (.int 1))) (f2 gr (fC (.int 14)) (ac 5)))) (bK (dj 4 (f2 aH (ac 4) (aj ah 3 (aa (ac 0) (aa (ac 6) (aa (fC (.int 4)) ag)))))) (bK (dj 7 (f2 ixD (bD (aa (fC (.str "n")) (aa (fC (.str "m-1")) (aa (fC (.str "safe-a")) (aa (fC (.str "N_2")) ag))))) (aj ah 3 (aa (ac 0) (aa (f2 aH (ac 6) (fC (.int 1))) (aa (fC (.int 4)) ag)))))) (bK (dj 8 (f2 ixD (bD (aa (fC (.str "5")) (aa (fC (.str "")) (aa (fC (.str "a!b~")) ag)))) (aj ah 3 (aa (ac 0) (aa (f2 aH (ac 6) (fC (.int 2))) (aa (fC (.int 3)) ag)))))) (bK (dj 9 (f2 ixD (bD (aa (fC .non) (aa (aj ah 3 (aa (ac 0) (aa (f2 aH (ac 6) (fC (.int 7))) (aa (fC (.int 60)) ag)))) ag))) (aj ah 3 (aa (ac 0) (aa (f2 aH (ac 6) (fC (.int 6))) (aa (fC (.int 2)) ag)))))) (bK (dj 10 (f2 eqX (aj ah 3 (aa (ac 0) (aa (f2 aH (ac 6) (fC (.int 4))) (aa (fC (.int 2)) ag)))) (fC (.int 0)))) (bK (dj 11 (df (aa (ac 7) (aa (ac 8) (aa (aj cP 2 (aa (ac 0) (aa (f2 aH (ac 6) (fC (.int 3))) ag))) (aa (ac 10) (aa (aj cQ 2 (aa (ac 0) (aa (f2 aH (ac 6) (fC (.int 5))) ag))) ag))))))) (bK (dj 12 (f2 ixD (bD (aa (fC (.str "any")) (aa (fC (.str "any")) (aa (fC (.str "near")) ag)))) (aj ah 3 (aa (ac 0) (aa (f2 aH (ac 6) (fC (.int 9))) (aa (fC (.int 3)) ag)))))) (bK (dj 13 (f2 eqX (aj ah 3 (aa (ac 0) (aa (f2 aH (ac 6) (fC (.int 8))) (aa (fC (.int 2)) ag)))) (fC (.int 0)))) (bK (dj 14 (f2 aH (ac 4) (aj ah 3 (aa (ac 0) (aa (f2 aH (ac 6) (fC (.int 10))) (aa (fC (.int 5)) ag)))))) (bK (dj 15 (f2 aH (ac 11) (df (aa (ac 9) (aa (ac 13) (aa (ac 12) (aa (ac 4) (aa (ac 14) ag)))))))) (vm 3 (fB (f2 eqX (cz [("_law_note_here",15)] (cp (ac 3)) (some (fB (f2 eqX (df (aa (f2 ixD (ac 0) (fC (.int 0))) (aa (f2 ixD (ac 0) (fC (.int 2))) (aa (f2 ixD (ac 0) (fC (.int 4))) ag)))) (df (aa (f2 ixD (ac 1) (fC (.int 0))) (aa (f2 ixD (ac 1) (fC (.int 2))) (aa (f2 ixD (ac 1) (fC (.int 4))) ag))))))) (ac 0)) (bD ag))) (gC (ac 15)) tX))))))))))))
def gc:FnS:=(qL 3 ag (bK (dj 4 (fC (.int 0))) (bK (i5 5 [5,6,7,8,9,10,11,12,13,14,15] (fun ρ=>bnd ((aa (aj ah 3 (aa (ac 0) (aa (ac 1) (aa (f2 aH (ac 2) (fC (.int 1))) ag)))) ag) ρ) gz) aM) (ny 3 (fB1 dO (aa (ac 3) ag))))))
def eF:List Dv→Option (Rs Dv):=c8 16 gc
def T24:dz:=("_law_jar",4,["_law_script","_law_at","_law_many"],eF) :: T23
theorem ll (A:Af K "_law_jar" (top 68) f) (t:HA P w K mg base T23):HA P w K mg base T24 :=
 aF (aQ XI Gn ["_law_script","_law_at","_law_many","_law_found","_law_now","_law_k","_law_here","_law_name_here","_law_worth","_law_ends","_law_exact","_law_head","_law_reach","_law_safe","_law_late","_law_note_here"] ["_law_script","_law_at","_law_many"] gc A (by walk_at "d") (by delta gc aM; walk_at "b")) t
def bV:FnS:=(bZ (dL (fB (aj bg 1 (aa (ac 0) ag)))) (di 5 (fC (.str "this is no jar"))) (fun ρ=>some (.nx ρ)))
def cT:List Dv→Option (Rs Dv):=qK 1 bV
def TE1:dz:=("need_jar",6,["thing"],cT) :: TE0
theorem lq (A:Af K "need_jar" (top 53) f) (t:HA P w K mg base T24) (te:HAE P w K mg base TE0):HAE P w K mg base TE1 :=
 jf (lc XI Gn ["thing"] ["thing"] bV A (by walk_at "d") (by delta bV; walk_at "b")) te
def cV:FnS:=(qL 1 (aa (f2 addD (f2 addD (f2 ixD (ac 0) (fC (.int 0))) (fC (.str "="))) (f2 ixD (ac 0) (fC (.int 1)))) ag) (bK (gC (f2 addD (fIf (fB (f2 ixD (ac 0) (fC (.int 3)))) (fC (.str "only ")) (fC (.str "for "))) (f2 ixD (ac 0) (fC (.int 2))))) (bK (gC (f2 addD (fC (.str "under ")) (f2 ixD (ac 0) (fC (.int 4))))) (bK (oIf (fB (f2 mR (f2 ixD (ac 0) (fC (.int 5))) (fC .non))) (gC (f2 addD (fC (.str "until ")) (fB1 nz (aa (f2 ixD (ac 0) (fC (.int 5))) ag)))) tX) (bK (oIf (fB (f2 ixD (ac 0) (fC (.int 6)))) (gC (fC (.str "safe"))) tX) (bK (oIf (fB (f2 eqX (f2 ixD (ac 0) (fC (.int 7))) (fC (.str "near")))) (gC (fC (.str "near"))) tX) (bK (gC (f2 addD (fC (.str "made ")) (fB1 nz (aa (f2 ixD (ac 0) (fC (.int 8))) ag)))) (bK (gC (f2 addD (fC (.str "used ")) (fB1 nz (aa (f2 ixD (ac 0) (fC (.int 9))) ag)))) (ny 1 (f2 addD (fM (cH) (fC (.str "; ")) (aa (ac 1) ag)) (fC (.str "\n"))))))))))))
def bW:List Dv→Option (Rs Dv):=c8 2 cV
def T25:dz:=("note_text",1,["note"],bW) :: T24
theorem kc (A:Af K "note_text" (top 55) f) (t:HA P w K mg base T24):HA P w K mg base T25 :=
 aF (aQ XI Gn ["note","parts"] ["note"] cV A (by walk_at "d") (by delta cV; walk_at "b")) t
def cW:FnS:=(aG (gy (bQ cT 1 (aa (ac 0) ag))) (bb (fM (cH) (fC (.str "")) (aa (cz [] (cp (ac 0)) none (aj bW 1 (aa (ac 0) ag))) ag))))
def aO:List Dv→Option (Rs Dv):=qK 1 cW
def TE2:dz:=("jar_text",7,["jar"],aO) :: TE1
theorem lr (A:Af K "jar_text" (top 56) f) (t:HA P w K mg base T25) (te:HAE P w K mg base TE1):HAE P w K mg base TE2 :=
 jf (lc XI Gn ["jar"] ["jar"] cW A (by walk_at "d") (by delta cW; walk_at "b")) te
def aP:FnS:=(bb (aj aD 4 (aa (ac 0) (aa (fC (.str "0123456789")) (aa (fC (.int 1)) (aa (fC (.int 4)) ag))))))
def aI:List Dv→Option (Rs Dv):=c8 1 aP
def T26:dz:=("is_written_moment",2,["text"],aI) :: T25
theorem eN (A:Af K "is_written_moment" (top 33) f) (t:HA P w K mg base T25):HA P w K mg base T26 :=
 aF (aQ XI Gn ["text"] ["text"] aP A (by walk_at "d") (by delta aP; walk_at "b")) t
def bj:FnS:=(aG (bZ (fB (f2 eqX (ac 0) (fC (.str "until")))) (bb (bD (aa (df (aa (fC (.int 5)) (aa (ac 1) ag))) ag))) (fun ρ=>some (.nx ρ))) (aG (bZ (fB (f2 eqX (ac 0) (fC (.str "made")))) (bb (bD (aa (df (aa (fC (.int 8)) (aa (ac 1) ag))) ag))) (fun ρ=>some (.nx ρ))) (aG (bZ (fB (f2 eqX (ac 0) (fC (.str "used")))) (bb (bD (aa (df (aa (fC (.int 9)) (aa (ac 1) ag))) ag))) (fun ρ=>some (.nx ρ))) (bb (bD ag)))))
def bE:List Dv→Option (Rs Dv):=c8 2 bj
def T27:dz:=("written_moment",1,["word","moment"],bE) :: T26
theorem gf (A:Af K "written_moment" (top 60) f) (t:HA P w K mg base T26):HA P w K mg base T27 :=
 aF (aQ XI Gn ["word","moment"] ["word","moment"] bj A (by walk_at "d") (by delta bj; walk_at "b")) t
def aZ:FnS:=(aG (bZ (fB (f2 eqX (ac 0) (fC (.str "safe")))) (bb (bD (aa (df (aa (fC (.int 6)) (aa (fC (.bl b_)) ag))) ag))) (fun ρ=>some (.nx ρ))) (aG (bZ (fB (f2 eqX (ac 0) (fC (.str "near")))) (bb (bD (aa (df (aa (fC (.int 7)) (aa (ac 0) ag))) ag))) (fun ρ=>some (.nx ρ))) (aG (bn 1 (fM (kW) (ac 0) (aa (fC (.str " ")) ag))) (aG (bn 2 (f2 ixD (ac 1) (fC (.int 0)))) (aG (bn 3 (f2 ixD (ac 1) (fC (.int 2)))) (aG (bZ (bOr (fB (f2 eqX (ac 2) (fC (.str "only")))) (fB (f2 eqX (ac 2) (fC (.str "for"))))) (bb (bD (aa (df (aa (fC (.int 2)) (aa (ac 3) ag))) (aa (df (aa (fC (.int 3)) (aa (f2 eqX (ac 2) (fC (.str "only"))) ag))) ag)))) (fun ρ=>some (.nx ρ))) (aG (bZ (fB (f2 eqX (ac 2) (fC (.str "under")))) (bb (bD (aa (df (aa (fC (.int 4)) (aa (ac 3) ag))) ag))) (fun ρ=>some (.nx ρ))) (aG (bZ (fB (aj aI 1 (aa (ac 3) ag))) (bb (aj bE 2 (aa (ac 2) (aa (fB1 qM (aa (ac 3) ag)) ag)))) (fun ρ=>some (.nx ρ))) (bb (bD ag))))))))))
def ba:List Dv→Option (Rs Dv):=c8 4 aZ
def T28:dz:=("what_is_written",3,["part"],ba) :: T27
theorem fP (A:Af K "what_is_written" (top 59) f) (t:HA P w K mg base T27):HA P w K mg base T28 :=
 aF (aQ XI Gn ["part","pieces","word","rest"] ["part"] aZ A (by walk_at "d") (by delta aZ; walk_at "b")) t
def bz:dD:=(pB (f2 ixD (ac 5) (fC (.int 0))) (f2 ixD (ac 5) (fC (.int 1))))
def aJ:dD:=(i5 5 [5] (cp (aj ba 1 (aa (ac 4) ag))) bz)
def cX:FnS:=(aG (bn 1 (fM (bc) (ac 0) (aa (fC (.str "; ")) ag))) (aG (bn 2 (fM (kW) (f2 ixD (ac 1) (fC (.int 0))) (aa (fC (.str "=")) ag))) (qL 3 (aa (f2 ixD (ac 2) (fC (.int 0))) (aa (f2 ixD (ac 2) (fC (.int 2))) (aa (fC .non) (aa (fC .non) (aa (fC .non) (aa (fC .non) (aa (fC (.bl c_)) (aa (fC (.str "any")) (aa (fC .non) (aa (fC .non) ag)))))))))) (bK (i5 4 [4,5] (cp (lM (ac 1) (am (fC (.int 1))) au)) aJ) (ny 3 (fB1 dO (aa (ac 3) ag)))))))
def bh:List Dv→Option (Rs Dv):=c8 6 cX
def T29:dz:=("read_line",4,["line"],bh) :: T28
theorem ke (A:Af K "read_line" (top 58) f) (t:HA P w K mg base T28):HA P w K mg base T29 :=
 aF (aQ XI Gn ["line","parts","first","note","part","told"] ["line"] cX A (by walk_at "d") (by delta cX bz aJ; walk_at "b")) t
def cY:FnS:=(aG (bZ (dL (fB (f1 (eQ dU) (ac 0)))) (di 7 (fC (.str "this is no text"))) (fun ρ=>some (.nx ρ))) (aG (bn 1 (fB1 dO (aa (cz [] (cp (lM (fM (bc) (ac 0) (aa (fC (.str "\n")) ag)) au (am (f1 gA (fC (.int 1)))))) none (aj bh 1 (aa (ac 0) ag))) ag))) (aG (bZ (bOr (dL (fB (aj bg 1 (aa (ac 1) ag)))) (fB (f2 neX (bQ aO 1 (aa (ac 1) ag)) (ac 0)))) (di 7 (fC (.str "this is not the writing of a jar"))) (fun ρ=>some (.nx ρ))) (bb (ac 1)))))
def bx:List Dv→Option (Rs Dv):=qK 2 cY
def TE3:dz:=("read_jar",8,["text"],bx) :: TE2
theorem lu (A:Af K "read_jar" (top 57) f) (t:HA P w K mg base T29) (te:HAE P w K mg base TE2):HAE P w K mg base TE3 :=
 jf (lc XI Gn ["text","jar"] ["text"] cY A (by walk_at "d") (by delta cY; walk_at "b")) te
def bH:FnS:=(aG (pP 8 1 3 (bQ bx 1 (aa (ac 0) ag)) (aG (bn 2 (bD (aa (f1 (isX (fun c=>if ([4,5,7]:List Nat).contains c then some (c == 7) else none)) (ac 1)) (aa (f1 (isX (fun c=>if ([4,5,7]:List Nat).contains c then some (c == 5) else none)) (ac 1)) (aa (f1 (isX (fun c=>if ([4,5,7]:List Nat).contains c then some (c == 4) else none)) (ac 1)) ag))))) (bZ (kz (fB (f1 (isX (fun c=>if ([4,5,7]:List Nat).contains c then some b_ else none)) (ac 1))) (fB (f2 eqX (ac 2) (bD (aa (fC (.bl b_)) (aa (fC (.bl c_)) (aa (fC (.bl c_)) ag))))))) (bb (fC .non)) (fun ρ=>some (.nx ρ))))) (bb (fC (.bl c_))))
def bX:List Dv→Option (Rs Dv):=c8 3 bH
def T30:dz:=("_law_told",9,["_law_text"],bX) :: T29
theorem kf (A:Af K "_law_told" (top 69) f) (t:HA P w K mg base T29) (te:HAE P w K mg base TE3):HA P w K mg base T30 :=
 aF (aQ XI Gn ["_law_text","e","_law_flags"] ["_law_text"] bH A (by walk_at "d") (by delta bH; walk_at "b")) t
def jm:FnE:=(aj eF 3 (aa (ac 0) (aa (fC (.int 0)) (aa (fC (.int 4)) ag))))
def jn:FnE:=(aj aO 1 (aa (ac 1) ag))
def jo:FnE:=(aj ah 3 (aa (ac 0) (aa (fC (.int 70)) (aa (f2 aH (fB1 bA (aa (ac 2) ag)) (fC (.int 1))) ag))))
def jp:FnE:=(f2 ixD (fC (.str "n=; 0a/\n.-")) (aj ah 3 (aa (ac 0) (aa (fC (.int 71)) (aa (fC (.int 10)) ag)))))
def jq:FnE:=(bD (aa (ac 2) (aa (f2 aH (aw (ac 2) au (am (ac 3))) (aw (ac 2) (am (f2 aH (ac 3) (fC (.int 1)))) au)) (aa (f2 aH (aw (ac 2) au (am (f2 aH (ac 3) (fC (.int 1))))) (aw (ac 2) (am (ac 3)) au)) (aa (f2 aH (f2 aH (aw (ac 2) au (am (ac 3))) (ac 4)) (aw (ac 2) (am (f2 aH (ac 3) (fC (.int 1)))) au)) ag)))))
def jr:FnE:=(f2 aH (ac 5) (bD (aa (f2 aH (f2 aH (aw (ac 2) au (am (ac 3))) (ac 4)) (aw (ac 2) (am (ac 3)) au)) (aa (fC (.str "")) (aa (fC (.str "\n")) (aa (fC (.str "n=1\n")) (aa (aw (ac 2) au (am (f1 gA (fC (.int 1))))) (aa (f2 y9 (ac 2) (fC (.int 2))) ag))))))))
def jt:FnE:=(fM (bc) (ac 2) (aa (fC (.str "\n")) ag))
def ju:FnE:=(aj ah 3 (aa (ac 0) (aa (fC (.int 72)) (aa (fB1 bA (aa (ac 6) ag)) ag))))
def fj:dD:=(gC (fM (cH) (fC (.str "\n")) (aa (f2 aH (f2 aH (aw (ac 6) au (am (ac 9))) (bD (aa (fM (cH) (fC (.str "; ")) (aa (ac 14) ag)) ag))) (aw (ac 6) (am (f2 aH (ac 9) (fC (.int 1)))) au)) ag)))
def de:dD:=(bK (dj 10 (fM (bc) (f2 ixD (ac 6) (ac 9)) (aa (fC (.str "; ")) ag))) (bK (dj 7 (aj ah 3 (aa (ac 0) (aa (f2 aH (fC (.int 80)) (ac 9)) (aa (fB1 bA (aa (ac 10) ag)) ag))))) (bK (dj 11 (bD (aa (fC (.str "safe")) (aa (fC (.str "near")) (aa (fC (.str "until 7")) (aa (fC (.str "until 07")) (aa (fC (.str "any")) (aa (fC (.str "made 0")) (aa (fC (.str "used 9")) (aa (fC (.str "x=")) (aa (fC (.str "for a.b")) (aa (fC (.str "only b")) ag)))))))))))) (bK (dj 12 (f2 ixD (ac 11) (aj ah 3 (aa (ac 0) (aa (f2 aH (fC (.int 90)) (ac 9)) (aa (fC (.int 10)) ag)))))) (bK (dj 13 (bD (aa (f2 aH (aw (ac 10) au (am (ac 7))) (aw (ac 10) (am (f2 aH (ac 7) (fC (.int 1)))) au)) (aa (f2 aH (aw (ac 10) au (am (f2 aH (ac 7) (fC (.int 1))))) (aw (ac 10) (am (ac 7)) au)) (aa (f2 aH (f2 aH (aw (ac 10) au (am (ac 7))) (bD (aa (ac 12) ag))) (aw (ac 10) (am (f2 aH (ac 7) (fC (.int 1)))) au)) ag))))) (bK (dj 13 (f2 aH (ac 13) (bD (aa (f2 aH (f2 aH (aw (ac 10) au (am (ac 7))) (bD (aa (ac 12) ag))) (aw (ac 10) (am (ac 7)) au)) (aa (f2 aH (f2 aH (aw (ac 10) au (am (ac 7))) (fK (aw (ac 10) (am (ac 7)) (am (f2 aH (ac 7) (fC (.int 2))))))) (aw (ac 10) (am (f2 aH (ac 7) (fC (.int 2)))) au)) ag))))) (sy 14 [14] (vX (ac 13)) fj)))))))
def fk:FnE:=(fM (bc) (aw (aj aO 1 (aa (df (aa (df (aa (fC (.str "n")) (aa (fC (.str "5")) (aa (fC (.str "a.b")) (aa (fC (.bl c_)) (aa (fC (.str "/")) (aa (fC .non) (aa (fC (.bl b_)) (aa (fC (.str "near")) (aa (fC (.int 3)) (aa (fC (.int 4)) ag))))))))))) ag)) ag)) au (am (f1 gA (fC (.int 1))))) (aa (fC (.str "; ")) ag))
def lv:FnE:=(f2 aH (ac 5) (bD (aa (f2 aH (fM (cH) (fC (.str "; ")) (aa (aw (ac 10) au (am (ac 9))) ag)) (fC (.str "\n"))) (aa (f2 aH (fM (cH) (fC (.str "; ")) (aa (f2 aH (aw (ac 10) au (am (ac 9))) (aw (ac 10) (am (f2 aH (ac 9) (fC (.int 1)))) au)) ag)) (fC (.str "\n"))) ag))))
def cA:FnS:=(bn 5 lv)
def lw:FnB:=(fB (f2 neX (aj bX 1 (aa (ac 11) ag)) (aj bM 1 (aa (ac 11) ag))))
def cB:FnS:=(bZ lw (bb (fC (.bl c_))) (fun ρ=>some (.nx ρ)))
def fm:FnE:=(f2 eqX (aj bM 1 (aa (ac 2) ag)) (ac 1))
def gG:FnE:=(f2 addD (ac 5) (bD (aa (fM (cH) (fC (.str "\n")) (aa (f2 aH (aw (ac 6) au (am (ac 7))) (aw (ac 6) (am (f2 aH (ac 7) (fC (.int 1)))) au)) ag)) (aa (fM (cH) (fC (.str "\n")) (aa (f2 aH (aw (ac 6) au (am (f2 aH (ac 7) (fC (.int 1))))) (aw (ac 6) (am (ac 7)) au)) ag)) ag))))
def pV:FnS:=(aG (bn 1 jm) (aG (bn 2 jn) (aG (bn 3 jo) (aG (bn 4 jp) (aG (bn 5 jq) (aG (bn 5 jr) (aG (bn 6 jt) (aG (bn 7 ju) (pF 5 gG (bK (dj 8 (f2 aH (f2 aH (aw (ac 6) au (am (ac 7))) (fK (aw (ac 6) (am (ac 7)) (am (f2 aH (ac 7) (fC (.int 2))))))) (aw (ac 6) (am (f2 aH (ac 7) (fC (.int 2)))) au))) (bK (gC (fM (cH) (fC (.str "\n")) (aa (ac 8) ag))) (bK (i5 9 [7,12,13,14] (fun ρ=>bnd ((aa (f2 oG (fB1 bA (aa (ac 6) ag)) (fC (.int 1))) ag) ρ) gz) de) (xl 5 (aG (bn 10 fk) (aG (jL 9 [9] (fun ρ=>bnd ((aa (fB1 bA (aa (ac 10) ag)) ag) ρ) gz) cA) (aG (jL 11 [11] (cp (ac 5)) cB) (bb fm)))))))))))))))))
def pW:List Dv→Option (Rs Dv):=c8 15 pV
theorem zY {fd:F3} (A:Fun K "law" "law" (top 73) f fd) (t:HA P w K mg base T30) (te:HAE P w K mg base TE3):FnOk P w K mg base CX0 10 f fd ["_law_script"] (spF K pW 1) :=
 tI ["_law_script","_law_jar_here","_law_text","_law_at","_law_sign","_law_texts","_law_lines","_law_to","_law_exchanged","_law_k","_law_parts","_law_some","_law_odd","_law_others","_law_other"] ["_law_script"] pV (by kernel_rfl) (by kernel_rfl) A (CV (by kernel_rfl)) (by delta pV jm jn jo jp jq jr jt ju fj de fk lv cA lw cB fm gG; walk_at "b")
end
theorem af {K:ck} {x:Str} {st:F_} (f:k_) (m:String:="law_notejar_k81_whole_read") (t:Nat:=492) (c:Nat:=Nat.pred f) (a:nsM K x=some (some (.ref f)):=by kernel_rfl) (l:K.lookup f=some ⟨Fb "function",none,.func (G7 x x (fV st) (cy st) (aE st) .none .none .none (kS m t) none (kR c) .none),#[]⟩:=by kernel_rfl) (cc:I_ K (kR c) x=b_:=by kernel_rfl) (k:Gx K (.ref f)=b_:=by kernel_rfl):Af K x st f:=⟨a,⟨_,yc l cc k⟩,k⟩
theorem all_mk {l:Kf} {w:EO} {K:ck} {h:Fg} {mg:Str→Option d_} {fa:k_} (X:K.In h) (G:h.Ns x_ mg) (hfa:mg "law"=some (.ref fa))
 {f1 f2 f3 f4 f5 f6 f7 f8 f9 f10 f11 f12 f13 f14 f15 f16 f17 f18 f19 f20 f21 f22 f23 f24 f25 f26 f27 f28 f29 f30 f31 f32 f33 fl:k_}
 (A1:Af K "_law_cell" (top 62) f1)
 (A2:Af K "_law_drawn" (top 63) f2)
 (A3:Af K "_law_moment" (top 70) f3)
 (A4:Af K "_law_note" (top 71) f4)
 (A5:Af K "key" (top 47) f5)
 (A6:Af K "has_no_key_twice" (top 52) f6)
 (A7:Af K "is_by_made" (top 51) f7)
 (A8:Af K "is_whole_number" (top 7) f8)
 (A9:Af K "is_moment" (top 22) f9)
 (A10:Af K "is_moment_or_none" (top 23) f10)
 (A11:Af K "is_text_of" (top 6) f11)
 (A12:Af K "is_label" (top 14) f12)
 (A13:Af K "is_name" (top 15) f13)
 (A14:Af K "is_note_name" (top 30) f14)
 (A15:Af K "is_path" (top 19) f15)
 (A16:Af K "is_reach" (top 32) f16)
 (A17:Af K "is_tuple_of" (top 8) f17)
 (A18:Af K "is_worth" (top 31) f18)
 (A19:Af K "is_note" (top 46) f19)
 (A20:Af K "is_jar" (top 50) f20)
 (A21:Af K "_law_due" (top 72) f21)
 (A22:Af K "_law_name" (top 64) f22)
 (A23:Af K "_law_path" (top 66) f23)
 (A24:Af K "_law_jar" (top 68) f24)
 (A25:Af K "need_jar" (top 53) f25)
 (A26:Af K "note_text" (top 55) f26)
 (A27:Af K "jar_text" (top 56) f27)
 (A28:Af K "is_written_moment" (top 33) f28)
 (A29:Af K "written_moment" (top 60) f29)
 (A30:Af K "what_is_written" (top 59) f30)
 (A31:Af K "read_line" (top 58) f31)
 (A32:Af K "read_jar" (top 57) f32)
 (A33:Af K "_law_told" (top 69) f33)
 (AL:Af K "law" (top 73) fl) (ma:CC.all (CM K)=b_) {C4 C5 C7 CJ:k_} (cb:caB K [4,5,7] [0,0,0,0,C4,C5,0,C7] CJ 8=b_) :
 ∃ fd:F3,(∀ (s:e_) (v:d_),KO s fd ⟨[v],[]⟩ [("_law_script",v)])∧∀ base:Fg,K.In base→base.Ns x_ mg→FnOk l.prog w K mg base CX0 10 fa fd ["_law_script"] (spF K pW 1):=by
 have e:=hfa.symm.trans (Iy X G AL.a);cases e;have M:=zB X G CC ma;obtain ⟨fd,Fn⟩:=AL.F;refine ⟨fd,?_,fun base _ _=>?_⟩
 · obtain ⟨oc,od,kV,doc,pm,an,cdv,ct,osl,rfl,lk,hcd⟩:=Fn.ex;exact fun s v=>.of_eq rfl
 obtain ⟨xa,ca⟩:=CU X G cb;have t0:HA l.prog w K mg base T0:=zz;have te0:HAE l.prog w K mg base TE0:=vK;have t1:=j6 X G M xa ca A1 t0;have t2:=jh X G M xa ca A2 t1;have t3:=iu X G M xa ca A3 t2;have t4:=j7 X G M xa ca A4 t3;have t5:=zX X G M xa ca A5 t4;have t6:=eY X G M xa ca A6 t5;have t7:=ji X G M xa ca A7 t6;have t8:=fN X G M xa ca A8 t7;have t9:=j8 X G M xa ca A9 t8;have t10:=eM X G M xa ca A10 t9;have t11:=jj X G M xa ca A11 t10;have t12:=lg X G M xa ca A12 t11;have t13:=nj X G M xa ca A13 t12;have t14:=ie X G M xa ca A14 t13;have t15:=nk X G M xa ca A15 t14;have t16:=lh X G M xa ca A16 t15;have t17:=iw X G M xa ca A17 t16;have t18:=li X G M xa ca A18 t17;have t19:=nn X G M xa ca A19 t18;have t20:=pU X G M xa ca A20 t19;have t21:=lj X G M xa ca A21 t20;have t22:=j9 X G M xa ca A22 t21;have t23:=ka X G M xa ca A23 t22;have t24:=ll X G M xa ca A24 t23;have te1:=lq X G M xa ca A25 t24 te0;have t25:=kc X G M xa ca A26 t24;have te2:=lr X G M xa ca A27 t25 te1;have t26:=eN X G M xa ca A28 t25;have t27:=gf X G M xa ca A29 t26;have t28:=fP X G M xa ca A30 t27;have t29:=ke X G M xa ca A31 t28;have te3:=lu X G M xa ca A32 t29 te2;have t30:=kf X G M xa ca A33 t29 te3;exact zY X G M xa ca Fn t30 te3
end G
set_option maxHeartbeats 4000000
namespace FD
open PySem PySem.Spec
open PySem.StrLaws PySem.Builtin PySem.Builtin.Str
def J (S:List Nat):List Nat→List (List Nat)→List Nat
 | p,[]=>p
 | p,q :: r=>p ++ (S ++ J S q r)
theorem at_iff {x sep:Str} {k:Nat}:At x sep x.length k↔k + sep.length≤x.length∧(x.cps.toList.drop k).take sep.length=sep.cps.toList:=by
 unfold At;rw [subAt_eq];simp
theorem pX {x sep:Str} {c:Nat} {rest:List Nat} (hS:sep.cps.toList=c :: rest) {k:Nat} (h:At x sep x.length k):x.cps.toList[k]?=some c:=by
 obtain ⟨_,h2⟩:=at_iff.mp h;rw [hS] at h2;have h3:=congrArg (fun l=>l[0]?) h2;simp only [HR] at h3;have hl:0 < sep.length:=by
  show 0 < sep.cps.size;rw [← ES,hS];simp
 rw [JB hl,Jj] at h3;simpa using h3
theorem wj {x sep:Str} {c:Nat} {rest:List Nat} (hS:sep.cps.toList=c :: rest) {p tl:List Nat} {a k:Nat} (hd:x.cps.toList.drop a=p ++ tl) (hp:c ∉ p) (h1:a≤k) (h2:k < a + p.length):¬ At x sep x.length k:=by
 intro h;have e:=pX hS h;have e2:(x.cps.toList.drop a)[k - a]?=some c:=by rw [Jj,show a + (k - a)=k by omega]; exact e
 rw [hd,FQ (by omega)] at e2;exact hp (Gf e2)
theorem mi {x sep:Str} {c:Nat} {rest:List Nat} (hS:sep.cps.toList=c :: rest):∀ (parts:List (List Nat)) (p:List Nat) (a:Nat) (cuts:List Nat) (f:Nat),(∀ q∈p :: parts,c ∉ q)→x.cps.toList.drop a=J sep.cps.toList p parts→a≤x.length →
 ChainG x sep x.length a cuts f→(∀ k,f≤k→¬ At x sep x.length k)→(partsFrom x sep.length a cuts).map (fun s=>s.cps.toList)=p :: parts
 | [],p,a,cuts,f,hp,hd,ha,hG,hn=>by
  have hlen:x.cps.toList.length=x.length:=by simp [Jb]
  have hno:∀ k,a≤k→¬ At x sep x.length k:=fun k hk h=>by
   have e:=pX hS h;have e2:(x.cps.toList.drop a)[k - a]?=some c:=by rw [Jj,show a + (k - a)=k by omega]; exact e
   rw [hd] at e2;exact hp p g_ (Gf e2)
  cases cuts with
  | nil =>
   show [(strSub x a x.length).cps.toList]=[p];rw [strSub_toList,hd];show [p.take (x.length - a)]=[p];have:p.length=x.length - a:=by
    have:=congrArg HQ hd;rw [Gs,hlen] at this;exact this.symm
   rw [Ka (by omega)]
  | cons k ks=>exact absurd hG.2.1 (hno k hG.1)
 | q :: r,p,a,cuts,f,hp,hd,ha,hG,hn=>by
  have hlen:x.cps.toList.length=x.length:=by simp [Jb]
  have hsl:sep.cps.toList.length=sep.length:=by simp [Jb]
  have hd':x.cps.toList.drop a=p ++ (sep.cps.toList ++ J sep.cps.toList q r):=hd;have hdp:x.cps.toList.drop (a + p.length)=sep.cps.toList ++ J sep.cps.toList q r:=by
   rw [← List.drop_drop,hd',Ih]
  have hl1:=congrArg HQ hdp;rw [Gs,hlen,z_,hsl] at hl1;have hs0:0 < sep.length:=by rw [← hsl,hS]; simp
  have hat:At x sep x.length (a + p.length):=at_iff.mpr ⟨by omega,by rw [hdp,← hsl,KB]⟩;have hbe:∀ k,a≤k→k < a + p.length→¬ At x sep x.length k:=fun k h1 h2=>wj hS hd' (hp p g_) h1 h2;cases cuts with
  | nil=>exact absurd hat (hn _ (by have:f=a:=hG; omega))
  | cons k ks =>
   obtain ⟨g1,g2,g3,g4⟩:=hG;have ek:k=a + p.length:=by
    rcases LN k (a + p.length) with h | h | h
    · exact absurd g2 (hbe k g1 h)
    · exact h
    · exact absurd hat (g3 _ (by omega) h)
   subst ek;show (strSub x a (a + p.length)).cps.toList :: (partsFrom x sep.length (a + p.length + sep.length) ks).map (fun s=>s.cps.toList)=p :: q :: r;rw [mi hS r q (a + p.length + sep.length) ks f (fun z hz=>hp z (f_ _ hz)) (by rw [← List.drop_drop,hdp,← hsl,Ih]) (by omega) g4 hn,strSub_toList,hd',show a + p.length - a=p.length by omega,KB]
theorem pY {a b:Str} (h:a.cps.toList=b.cps.toList):a=b:=by
 obtain ⟨⟨a⟩⟩:=a; obtain ⟨⟨b⟩⟩:=b;simp at h;rw [h]
theorem fq:∀ {l m:List Str},l.map (fun s=>s.cps.toList)=m.map (fun s=>s.cps.toList)→l=m
 | [],[],_=>rfl
 | a :: l,b :: m,h=>by
  simp only [Fe,Hd] at h;rw [pY h.1,fq h.2]
 | [],_ :: _,h=>by simp at h
 | _ :: _,[],h=>by simp at h
theorem ig {x sep:Str} {c:Nat} {rest:List Nat} (hS:sep.cps.toList=c :: rest) (hk:GD sep=1) {p:Str} {parts:List Str} (hp:∀ q∈p :: parts,c ∉ q.cps.toList) (hx:x.cps.toList=J sep.cps.toList p.cps.toList (parts.map fun s=>s.cps.toList)) :
 u_ x sep=p :: parts:=by
 have hsl:sep.cps.toList.length=sep.length:=by simp [Jb]
 have hlen:x.cps.toList.length=x.length:=by simp [Jb]
 obtain ⟨f,hG,hn⟩:=occ_tight x sep (by rw [← hsl,hS]; simp);have main:=mi hS (parts.map fun s=>s.cps.toList) p.cps.toList 0 _ f (by
  intro q hq;rcases q_.mp hq with rfl | hq
  · exact hp p g_
  · obtain ⟨s,hs,rfl⟩:=Fq.mp hq;exact hp s (f_ _ hs)) (by rw [Ho]; exact hx) (F7 _) hG hn
 have hx1:1≤GD x:=by unfold GD; split; omega; split <;> omega
 unfold u_;split
 · rename_i hc;rw [Mr,decide_eq_true_eq,decide_eq_true_eq] at hc;rcases hc with h | h
   · cases parts with
     | nil=>rw [pY (a:=x) (b:=p) hx]
     | cons q r =>
      have:=congrArg HQ hx;rw [hlen] at this;simp only [Fe,J,z_,hsl] at this;omega
   · omega
 · split
   · rename_i he;have e0:occurrences x sep 0 x.length (x.length + 1)=[]:=Mc.mp he;rw [e0] at main;have m2:[(strSub x 0 x.length).cps.toList]=p.cps.toList :: (parts.map fun s=>s.cps.toList):=main;rw [sub_whole] at m2;exact fq (l:=[x]) (m:=p :: parts) m2
   · rw [partsBetween_eq];exact fq (by rw [main]; rfl)
end FD
namespace FD
open PySem PySem.Spec PyProof.Rows L2
theorem mj {elt:FnE} {cap:Ev} {α:Type} (en:α→Dv) (f:α→Dv):∀ {l:List α},(∀ a∈l,elt (cap.set 0 (some (en a)))=some (.ok (f a)))→oF none elt cap (l.map en)=some (l.map f)
 | [],_=>rfl
 | a :: l,h=>by
  have ih:=mj (elt:=elt) (cap:=cap) en f (l:=l) fun b hb=>h b (f_ _ hb);rw [Fe,Fe];unfold oF;dsimp only;rw [h a g_,ih]
theorem kg {tst:FnB} {elt:FnE} {cap:Ev} {α:Type} (en:α→Dv) (p:α→Bool) (f:α→Dv):∀ {l:List α},(∀ a∈l,tst (cap.set 0 (some (en a)))=some (.ok (p a))∧elt (cap.set 0 (some (en a)))=some (.ok (f a)))→oF (some tst) elt cap (l.map en)=some ((l.filter p).map f)
 | [],_=>rfl
 | a :: l,h=>by
  have ih:=kg (tst:=tst) (elt:=elt) (cap:=cap) en p f (l:=l) fun b hb=>h b (f_ _ hb);obtain ⟨h1,h2⟩:=h a g_;rw [Fe];unfold oF;dsimp only;rw [h1,ih];cases q:p a with
  | true=>dsimp only; rw [h2,List.filter_cons_of_pos q]; rfl
  | false=>dsimp only; rw [List.filter_cons_of_neg (by rw [q]; decide)]
theorem ml {elt:FnE} {cap:Ev} {α:Type} (en:α→Dv) (f:α→Dv):∀ {l:List α},(∀ a∈l,elt (cap.set 0 (some (en a)))=some (.ok (f a)))→jQ (gN 0) none elt cap (l.map en)=some (l.map f)
 | [],_=>rfl
 | a :: l,h=>by
  have ih:=ml (elt:=elt) (cap:=cap) en f (l:=l) fun b hb=>h b (f_ _ hb);rw [Fe,Fe];unfold jQ;show (match elt (cap.set 0 (some (en a))) with | some (.ok y)=>_ | _=>_)=_
  rw [h a g_,ih]
theorem cF {cs:List (Str×Nat)} {src:FnA} {elt:FnE} {ρ:Ev} {α:Type} (en f:α→Dv) {l:List α} (hs:src ρ=some (.ok (l.map en))) (hl:l.length≤100000) (h:∀ a∈l,elt ((oE cs ρ).set 0 (some (en a)))=some (.ok (f a))):cz cs src none elt ρ=some (.ok (.lst (l.map f))):=by
 unfold cz;rw [hs];show (match oF none elt (oE cs ρ) (l.map en) with | some ys=>_ | none=>_)=_
 rw [mj en f h];dsimp only;rw [if_pos ⟨by simpa using hl,by simpa using hl⟩]
theorem kh {cs:List (Str×Nat)} {src:FnA} {tst:FnB} {elt:FnE} {ρ:Ev} {α:Type} (en:α→Dv) (p:α→Bool) (f:α→Dv) {l:List α} (hs:src ρ=some (.ok (l.map en))) (hl:l.length≤100000) (h:∀ a∈l,tst ((oE cs ρ).set 0 (some (en a)))=some (.ok (p a))∧elt ((oE cs ρ).set 0 (some (en a)))=some (.ok (f a))) :
 cz cs src (some tst) elt ρ=some (.ok (.lst ((l.filter p).map f))):=by
 unfold cz;rw [hs];show (match oF (some tst) elt (oE cs ρ) (l.map en) with | some ys=>_ | none=>_)=_
 rw [kg en p f h];dsimp only;have:=List.length_filter_le p l;rw [if_pos ⟨by simp; omega,by simpa using hl⟩]
theorem pZ {cs:List (Str×Nat)} {src:FnA} {elt:FnE} {ρ:Ev} {α:Type} (en f:α→Dv) {l:List α} (hs:src ρ=some (.ok (l.map en))) (hl:l.length≤100000) (h:∀ a∈l,elt ((fT 1 cs ρ).set 0 (some (en a)))=some (.ok (f a))):cK 1 cs src (gN 0) none elt ρ=some (.ok (.lst (l.map f))):=by
 unfold cK;rw [hs];show (match jQ (gN 0) none elt (fT 1 cs ρ) (l.map en) with | some ys=>_ | none=>_)=_
 rw [ml en f h];dsimp only;rw [if_pos ⟨by simpa using hl,by simpa using hl⟩]
theorem wl {i j:Int} (h:-(2 ^ 62)≤i∧i < 2 ^ 62∧-(2 ^ 62)≤j∧j < 2 ^ 62):rf [.int i,.int j]=some (.ok (rng i (j - i).toNat)):=by rw [rf,if_pos h]
theorem wm {j:Int} (h:-(2 ^ 62)≤j∧j < 2 ^ 62):gz [.int j]=some (.ok (rng 0 j.toNat)):=by rw [gz,if_pos h]
theorem wn {n:Nat} (h:n≤1000):-(2 ^ 62)≤(1:Int)∧(1:Int) < 2 ^ 62∧-(2 ^ 62)≤(n:Int)∧(n:Int) < 2 ^ 62:=by omega
theorem zZ {n:Nat} (h:n≤1000):rf [.int 1,.int (n:Int)]=some (.ok (rng 1 ((n:Int) - 1).toNat)):=wl (wn h)
theorem p3 {n:Nat} (h:n≤1000):gz [.int (n:Int)]=some (.ok (rng 0 n)):=by
 rw [wm (by omega)]; rfl
theorem ki {α:Type} (p:α→Bool):∀ l:List α,gB (l.map fun a=>Dv.bl (p a))=some (l.map p)
 | []=>rfl
 | a :: l=>by
  show (match gB (l.map fun a=>Dv.bl (p a)) with | some bs=>some (p a :: bs) | none=>none)=_
  rw [ki p l];rfl
mutual
def pln:Dv→Bool
 | .exn _=>c_
 | .tup ds=>plns ds
 | .lst ds=>plns ds
 | _=>b_
def plns:List Dv→Bool
 | []=>b_
 | d :: ds=>pln d && plns ds
end
mutual
theorem jv:∀ d:Dv,pln d=b_→FH (bP d) (bP d)=b_
 | .non,_=>by simp [bP,FH]
 | .bl b,_=>by simp [bP,FH]
 | .int b,_=>by simp [bP,FH]
 | .str b,_=>by simp [bP,FH]
 | .tup ds,h=>by simp only [bP,FH]; exact eqvs_refl ds (by simpa [pln] using h)
 | .lst ds,h=>by simp only [bP,FH]; exact eqvs_refl ds (by simpa [pln] using h)
 | .scr ns,_=>by
  simp only [bP,FH]
  induction ns with
  | nil=>simp [Gh]
  | cons n ns ih=>simp [Gh,FH]; exact ih rfl
 | .exn _,h=>by simp [pln] at h
theorem eqvs_refl:∀ ds:List Dv,plns ds=b_→Gh (toPys ds) (toPys ds)=b_
 | [],_=>by simp [toPys,Gh]
 | d :: ds,h=>by
  have h':pln d=b_∧plns ds=b_:=by simpa [plns] using h
  simp only [toPys,Gh,i_];exact ⟨jv d h'.1,eqvs_refl ds h'.2⟩
end
theorem wo {d:Dv} (h1:okP d=b_) (h2:pln d=b_):neX d d=some (.ok (.bl c_)):=by
 unfold neX;split
 · rename_i b hb;have:b=b_:=by
    cases d <;> simp [eqS] at hb
    · exact hb
    · exact hb
    · exact hb
    · rw [← hb]; unfold seq; simp
   rw [this]; rfl
 · rw [h1,jv d h2]; rfl
theorem wp {d:Dv} (h1:okP d=b_) (h2:pln d=b_):eqX d d=some (.ok (.bl b_)):=by
 unfold eqX;split
 · rename_i b hb;have:b=b_:=by
    cases d <;> simp [eqS] at hb
    · exact hb
    · exact hb
    · exact hb
    · rw [← hb]; unfold seq; simp
   rw [this]
 · rw [h1,jv d h2]; rfl
structure It1 (k:Nat) (d:Dv):Prop where
 c:F8 (bP d)=b_
 dp:(bP d).depth≤k
 p:pln d=b_
theorem wq {k:Nat}:∀ {ds:List Dv},(∀ d∈ds,It1 k d)→F6 (toPys ds)=b_∧GL (toPys ds)≤k∧plns ds=b_
 | [],_=>by simp [toPys,F6,GL,plns]
 | d :: ds,h=>by
  obtain ⟨h1,h2,h3⟩:=wq (ds:=ds) fun d' hd=>h d' (f_ _ hd);have h0:=h d g_;simp only [toPys,F6,GL,plns,i_];exact ⟨⟨h0.c,h1⟩,by have:=h0.dp; omega,h0.p,h3⟩
theorem p4 {k:Nat} {ds:List Dv} (h:∀ d∈ds,It1 k d):It1 (k + 1) (.tup ds):=by
 obtain ⟨h1,h2,h3⟩:=wq h;exact ⟨by simpa [bP,F8] using h1,by simp [bP,HY]; exact h2,by simpa [pln] using h3⟩
theorem iM {k:Nat} {ds:List Dv} (h:∀ d∈ds,It1 k d):It1 (k + 1) (.lst ds):=by
 obtain ⟨h1,h2,h3⟩:=wq h;exact ⟨by simpa [bP,F8] using h1,by simp [bP,HY]; exact h2,by simpa [pln] using h3⟩
theorem It1.okP {k:Nat} {d:Dv} (h:It1 k d) (hk:k≤64):okP d=b_:=by
 unfold FD.okP SeqAt.shaped;rw [h.c];have:=h.dp;simp;omega
theorem It1.le {k m:Nat} {d:Dv} (h:It1 k d) (hk:k≤m):It1 m d:=⟨h.c,EW h.dp hk,h.p⟩
theorem kj {x:Str} (h:F8 (.str x)=b_):It1 0 (.str x):=⟨h,by simp [bP,HY],rfl⟩
theorem p6 {i:Int}:It1 0 (.int i):=⟨rfl,by simp [bP,HY],rfl⟩
theorem z0 {i:Bool}:It1 0 (.bl i):=⟨rfl,by simp [bP,HY],rfl⟩
theorem z6:It1 0 .non:=⟨rfl,by simp [bP,HY],rfl⟩
end FD
namespace G
open PySem PySem.Spec PyProof.Rows L2 FD
theorem z7 {n:Nat} {B:FnS} {ds:List Dv} {d:Dv} (h:B (ds.map some ++ E6 (n - ds.length) none)=some (.rt d)):qK n B ds=some (.ok d):=by unfold qK; rw [h]
theorem Ew {n:Nat} {B:FnS} {ds:List Dv} {c:Nat} (h:B (ds.map some ++ E6 (n - ds.length) none)=some (.exc c)):qK n B ds=some (.exc c):=by unfold qK; rw [h]
theorem cE (F:List Dv→Option (Rs Dv)) {n:Nat} {g:FnA} {ρ:Ev} {ds:List Dv} {r:Option (Rs Dv)} (h:g ρ=some (.ok ds)) (hl:ds.length=n) (hF:F ds=r):bQ F n g ρ=r:=by
 unfold bQ;rw [h,← hF];exact if_pos hl
theorem Ex {a b:FnS} {ρ:Ev} {c:Nat} (h:a ρ=some (.exc c)):aG a b ρ=some (.exc c):=by unfold aG; rw [h]; rfl
theorem C0 {c:FnB} {f:FnS} {g:FnS} {ρ:Ev} {k:Nat} (h:c ρ=some (.ok b_)) (hf:f ρ=some (.exc k)):bZ c f g ρ=some (.exc k):=by rw [sD h,hf]
end G
namespace G
namespace PT
open PySem PySem.Spec PyProof.Rows L2 FD PySem.Builtin.Str
theorem cZ {x y:Str} (h:x.cps.toList=y.cps.toList):x=y:=by
 cases x; cases y;exact congrArg Str.mk (Mf.mp h)
theorem mn (x:Str) (i j:Nat):(strSub x i j).cps.toList=(x.cps.toList.drop i).take (j - i):=by
 unfold strSub;simp [IC]
theorem iN (x:Str) (c:Nat):(c ∉ x.cps.toList∧Fa x ⟨#[c]⟩=(x,KN,KN))∨∃ a b:List Nat,x.cps.toList=a ++ c :: b∧c ∉ a∧Fa x ⟨#[c]⟩=(⟨a.toArray⟩,⟨#[c]⟩,⟨b.toArray⟩):=by
 rcases StrLaws.occ_head x ⟨#[c]⟩ 1 (p_ 1) with ⟨h0,hn⟩ | ⟨i,r,h0,hi,hn⟩
 · refine .inl ⟨fun hm=>?_,by unfold Fa; rw [h0]⟩;obtain ⟨j,hj⟩:=KG hm;exact hn j ((Jt x c j).mpr hj)
 · have hm:=(Jt x c i).mp hi;obtain ⟨hil,hic⟩:=E_.mp hm;refine .inr ⟨x.cps.toList.take i,x.cps.toList.drop (i + 1),?_,fun h=>?_,?_⟩
   · rw [← hic,← Jm hil,Im]
   · obtain ⟨j,hj⟩:=KG h;have hji:j < i:=by
      have:=(E_.mp hj).1;rw [GZ] at this;omega
     rw [List.getElem?_take,if_pos hji] at hj;exact hn j hji ((Jt x c j).mpr hj)
   · unfold Fa;rw [h0];have e1:strSub x 0 i=⟨(x.cps.toList.take i).toArray⟩:=cZ (by rw [mn]; simp);have e2:strSub x (i + 1) x.length=⟨(x.cps.toList.drop (i + 1)).toArray⟩:=cZ (by
      rw [mn];have:x.length=x.cps.toList.length:=by simp; rfl
      rw [this];show _=x.cps.toList.drop (i + 1);rw [← Gs,List.take_length])
     show (strSub x 0 i,_,strSub x (i + 1) x.length)=_;rw [e1,e2]
end PT
end G
namespace G
open PySem PySem.Spec PyProof.Rows L2 FD
theorem wt (ns:List Int) (hl:ns.length≤63) (k:Int):∃ c,bG [.scr ns,.int k]=some (.ok (.int c)):=by
 cases ns with
 | nil=>exact ⟨7 * k,by kernel_rfl⟩
 | cons n r =>
  have h0:0 < (n :: r).length:=by simp
  have h1:(0:Int) < ((n :: r).length:Int):=by omega
  have h2:((n :: r).length:Int) < 1073741824:=by omega
  have h3:0≤k % ((n :: r).length:Int):=GM _ (by omega);have h4:k % ((n :: r).length:Int) < ((n :: r).length:Int):=Gd _ h1;have h5:(k % ((n :: r).length:Int)).toNat < (n :: r).length:=by omega
  refine ⟨(n :: r)[(k % ((n :: r).length:Int)).toNat] + 6553 * (k / ((n :: r).length:Int)),?_⟩;have hat:atD (n :: r) (k % ((n :: r).length:Int))=some (n :: r)[(k % ((n :: r).length:Int)).toNat]:=by
   unfold atD;rw [if_pos h3,Ff h5]
  have hm:fu (.int k) (.int ((n :: r).length:Int))=some (.ok (.int (k % ((n :: r).length:Int)))):=by
   show (if 0 < ((n :: r).length:Int) then _ else _)=_;rw [if_pos h1]
  have hd:fG (.int k) (.int ((n :: r).length:Int))=some (.ok (.int (k / ((n :: r).length:Int)))):=by
   show (if 0 < ((n :: r).length:Int)∧((n :: r).length:Int) < 1073741824 then _ else _)=_;rw [if_pos ⟨h1,h2⟩]
  have hi:ixD (.scr (n :: r)) (.int (k % ((n :: r).length:Int)))=some (.ok (.int (n :: r)[(k % ((n :: r).length:Int)).toNat])):=by
   show (match atD (n :: r) (k % ((n :: r).length:Int)) with | some d=>_ | none=>_)=_
   rw [hat]
  show (match cM [some (.scr (n :: r)),some (.int k)] with | some (.nx _)=>_ | some (.rt d)=>_ | _=>_)=_
  have e:cM [some (.scr (n :: r)),some (.int k)]=fr (bnd (bnd (fu (.int k) (.int ((n :: r).length:Int))) fun i=>ixD (.scr (n :: r)) i) fun x=>bnd (bnd (fG (.int k) (.int ((n :: r).length:Int))) fun q=>gr (.int 6553) q) fun y=>addD x y) fun d=>some (.rt d):=by kernel_rfl
  rw [e,hm,hd];show (match fr (bnd (ixD (.scr (n :: r)) (.int (k % ((n :: r).length:Int)))) fun x=>_) _ with | some (.nx _)=>_ | some (.rt d)=>_ | _=>_)=_
  rw [hi]
  kernel_rfl
def dr1 (c k:Int):Int:=(c % 2147483563 * 69069 + 104723 * (k + 1)) % 2147483563
def dr2 (c:Int):Int:=(c * c + c / 3) % 2147483399
def dr3 (c m:Int):Int:=(c * c + c / 7) % 2147483647 / 11 % m
theorem kl {i j:Int} (h:(-18446744073709551616 < i∧i < 18446744073709551616)∨(-18446744073709551616 < j∧j < 18446744073709551616)):gr (.int i) (.int j)=some (.ok (.int (i * j))):=by
 show (if _ then _ else _)=_;rw [if_pos h]
theorem km {i j:Int} (h:0 < j):fu (.int i) (.int j)=some (.ok (.int (i % j))):=by
 show (if _ then _ else _)=_;rw [if_pos h]
theorem drawn_ok (ns:List Int) (hl:ns.length≤63) (k m:Int) (hm:0 < m):∃ d:Int,0≤d∧d < m∧ah [.scr ns,.int k,.int m]=some (.ok (.int d)):=by
 obtain ⟨c,hc⟩:=wt ns hl k;refine ⟨dr3 (dr2 (dr1 c k)) m,GM _ (by omega),Gd _ hm,?_⟩;have b1:0≤dr1 c k∧dr1 c k < 2147483563:=⟨GM _ (by omega),Gd _ (by omega)⟩;have b2:0≤dr2 (dr1 c k)∧dr2 (dr1 c k) < 2147483399:=⟨GM _ (by omega),Gd _ (by omega)⟩;have b0:0≤c % 2147483563∧c % 2147483563 < 2147483563:=⟨GM _ (by omega),Gd _ (by omega)⟩;show c8 4 bL [.scr ns,.int k,.int m]=_;have s1:(aj bG 2 (aa (ac 0) (aa (ac 1) ag))) [some (.scr ns),some (.int k),some (.int m),none]=some (.ok (.int c)):=by
  show (match bG [.scr ns,.int k] with | some (.ok d)=>(some (.ok d):Option (Rs Dv)) | _=>none)=_
  rw [hc]
 have e1:(bn 3 (f2 fu (f2 addD (f2 gr (f2 fu (aj bG 2 (aa (ac 0) (aa (ac 1) ag))) (fC (.int 2147483563))) (fC (.int 69069))) (f2 gr (fC (.int 104723)) (f2 addD (ac 1) (fC (.int 1))))) (fC (.int 2147483563)))) [some (.scr ns),some (.int k),some (.int m),none]=some (.nx [some (.scr ns),some (.int k),some (.int m),some (.int (dr1 c k))]):=by
  show fr (bnd (bnd (bnd (bnd ((aj bG 2 (aa (ac 0) (aa (ac 1) ag))) [some (.scr ns),some (.int k),some (.int m),none]) fun x=>fu x (.int 2147483563)) fun x=>gr x (.int 69069)) fun x=>bnd (gr (.int 104723) (.int (k + 1))) fun y=>addD x y) fun x=>fu x (.int 2147483563)) (fun d=>some (.nx [some (.scr ns),some (.int k),some (.int m),some d]))=_;rw [s1];show fr (bnd (bnd (bnd (fu (.int c) (.int 2147483563)) fun x=>gr x (.int 69069)) fun x=>bnd (gr (.int 104723) (.int (k + 1))) fun y=>addD x y) fun x=>fu x (.int 2147483563)) _=_;rw [km (by omega),kl (i:=104723) (.inl (by omega))];show fr (bnd (bnd (gr (.int (c % 2147483563)) (.int 69069)) fun x=>addD x (.int (104723 * (k + 1)))) fun x=>fu x (.int 2147483563)) _=_;rw [kl (.inl (by omega))];show fr (fu (.int (c % 2147483563 * 69069 + 104723 * (k + 1))) (.int 2147483563)) _=_;rw [km (by omega)];rfl
 generalize hd1:dr1 c k=d1 at *;have e2:(bn 3 (f2 fu (f2 addD (f2 gr (ac 3) (ac 3)) (f2 fG (ac 3) (fC (.int 3)))) (fC (.int 2147483399)))) [some (.scr ns),some (.int k),some (.int m),some (.int d1)]=some (.nx [some (.scr ns),some (.int k),some (.int m),some (.int (dr2 d1))]):=by
  show fr (bnd (bnd (gr (.int d1) (.int d1)) fun x=>addD x (.int (d1 / 3))) fun x=>fu x (.int 2147483399)) (fun d=>some (.nx [some (.scr ns),some (.int k),some (.int m),some d]))=_;rw [kl (.inl (by omega))];show fr (fu (.int (d1 * d1 + d1 / 3)) (.int 2147483399)) _=_;rw [km (by omega)];rfl
 generalize hd2:dr2 d1=d2 at *;have e3:(bb (f2 fu (f2 fG (f2 fu (f2 addD (f2 gr (ac 3) (ac 3)) (f2 fG (ac 3) (fC (.int 7)))) (fC (.int 2147483647))) (fC (.int 11))) (ac 2))) [some (.scr ns),some (.int k),some (.int m),some (.int d2)]=some (.rt (.int (dr3 d2 m))):=by
  show fr (bnd (bnd (bnd (bnd (gr (.int d2) (.int d2)) fun x=>addD x (.int (d2 / 7))) fun x=>fu x (.int 2147483647)) fun x=>fG x (.int 11)) fun x=>fu x (.int m)) (fun d=>some (.rt d))=_;rw [kl (.inl (by omega))];show fr (bnd (bnd (fu (.int (d2 * d2 + d2 / 7)) (.int 2147483647)) fun x=>fG x (.int 11)) fun x=>fu x (.int m)) _=_;rw [km (by omega)];show fr (fu (.int ((d2 * d2 + d2 / 7) % 2147483647 / 11)) (.int m)) _=_;rw [km hm];rfl
 show (match bL [some (.scr ns),some (.int k),some (.int m),none] with | some (.nx _)=>_ | some (.rt d)=>_ | _=>_)=_
 have e:bL [some (.scr ns),some (.int k),some (.int m),none]=some (.rt (.int (dr3 d2 m))):=by
  show sq ((bn 3 _) _) (fun ρ=>sq ((bn 3 _) ρ) _)=_;rw [e1];show sq ((bn 3 _) [some (.scr ns),some (.int k),some (.int m),some (.int d1)]) _=_;rw [e2];exact e3
 rw [e]
def menu:List Str:=[a_ "a.b",a_ "b",a_ "x.a.b",a_ "y.x.a.b",a_ "c.uk",a_ "uk",a_ "d.c.uk",a_ "e.d.c.uk",a_ "w.ck",a_ "v.w.ck",a_ "ck",a_ "g-1.a.b",a_ "7.b",a_ "p.q"]
theorem wu (ns:List Int) (hl:ns.length≤63) (k:Int):∃ p∈menu,cP [.scr ns,.int k]=some (.ok (.str p)):=by
 obtain ⟨d,h0,h1,hd⟩:=drawn_ok ns hl k 14 (by omega);have e:cP [.scr ns,.int k]=(match fr (bnd (match ah [.scr ns,.int k,.int 14] with | some (.ok d)=>(some (.ok d):Option (Rs Dv)) | _=>none) fun i=>ixD (.lst (menu.map Dv.str)) i) fun d=>some (.rt d) with
  | some (.nx _)=>some (.ok .non)
  | some (.rt d)=>some (.ok d)
  | _=>none):=by kernel_rfl
 rw [e,hd];have hc:d=0∨d=1∨d=2∨d=3∨d=4∨d=5∨d=6∨d=7∨d=8∨d=9∨d=10∨d=11∨d=12∨d=13:=by omega
 rcases hc with rfl | rfl | rfl | rfl | rfl | rfl | rfl | rfl | rfl | rfl | rfl | rfl | rfl | rfl
 · exact ⟨a_ "a.b",by simp [menu],by kernel_rfl⟩
 · exact ⟨a_ "b",by simp [menu],by kernel_rfl⟩
 · exact ⟨a_ "x.a.b",by simp [menu],by kernel_rfl⟩
 · exact ⟨a_ "y.x.a.b",by simp [menu],by kernel_rfl⟩
 · exact ⟨a_ "c.uk",by simp [menu],by kernel_rfl⟩
 · exact ⟨a_ "uk",by simp [menu],by kernel_rfl⟩
 · exact ⟨a_ "d.c.uk",by simp [menu],by kernel_rfl⟩
 · exact ⟨a_ "e.d.c.uk",by simp [menu],by kernel_rfl⟩
 · exact ⟨a_ "w.ck",by simp [menu],by kernel_rfl⟩
 · exact ⟨a_ "v.w.ck",by simp [menu],by kernel_rfl⟩
 · exact ⟨a_ "ck",by simp [menu],by kernel_rfl⟩
 · exact ⟨a_ "g-1.a.b",by simp [menu],by kernel_rfl⟩
 · exact ⟨a_ "7.b",by simp [menu],by kernel_rfl⟩
 · exact ⟨a_ "p.q",by simp [menu],by kernel_rfl⟩
def pths : List Str := [a_ "/", a_ "/x", a_ "/x/", a_ "/x/y", a_ "/xy", a_ "/x/y/z.q", a_ "//", a_ "/-_.9", a_ "/x/y/"]
theorem wv (ns:List Int) (hl:ns.length≤63) (k:Int):∃ p∈pths,cQ [.scr ns,.int k]=some (.ok (.str p)):=by
 obtain ⟨d,h0,h1,hd⟩:=drawn_ok ns hl k 9 (by omega);have e:cQ [.scr ns,.int k]=(match fr (bnd (match ah [.scr ns,.int k,.int 9] with | some (.ok d)=>(some (.ok d):Option (Rs Dv)) | _=>none) fun i=>ixD (.lst (pths.map Dv.str)) i) fun d=>some (.rt d) with
  | some (.nx _)=>some (.ok .non)
  | some (.rt d)=>some (.ok d)
  | _=>none):=by kernel_rfl
 rw [e,hd];have hc:d=0∨d=1∨d=2∨d=3∨d=4∨d=5∨d=6∨d=7∨d=8:=by omega
 rcases hc with rfl | rfl | rfl | rfl | rfl | rfl | rfl | rfl | rfl
 · exact ⟨a_ "/",by simp [pths],by kernel_rfl⟩
 · exact ⟨a_ "/x",by simp [pths],by kernel_rfl⟩
 · exact ⟨a_ "/x/",by simp [pths],by kernel_rfl⟩
 · exact ⟨a_ "/x/y",by simp [pths],by kernel_rfl⟩
 · exact ⟨a_ "/xy",by simp [pths],by kernel_rfl⟩
 · exact ⟨a_ "/x/y/z.q",by simp [pths],by kernel_rfl⟩
 · exact ⟨a_ "//",by simp [pths],by kernel_rfl⟩
 · exact ⟨a_ "/-_.9", by simp [pths], by kernel_rfl⟩
 · exact ⟨a_ "/x/y/",by simp [pths],by kernel_rfl⟩
theorem call3 (F:List Dv→Option (Rs Dv)) {f g k:FnE} {ρ:Ev} {a b c d:Dv} (h:f ρ=some (.ok a)) (h':g ρ=some (.ok b)) (h'':k ρ=some (.ok c)) (hF:F [a,b,c]=some (.ok d)):aj F 3 (aa f (aa g (aa k ag))) ρ=some (.ok d):=cg (ae h (ae h' (ae h'' ai))) rfl hF
abbrev bo (k:Bool):Option (Rs Dv):=some (.ok (.bl k))
def okY:Option (Rs Dv)→Bool
 | some (.ok (.bl b_))=>b_
 | _=>c_
theorem uh {o:Option (Rs Dv)} (h:okY o=b_):o=some (.ok (.bl b_)):=by
 unfold okY at h; split at h
 · rfl
 · cases h
def okF:Option (Rs Dv)→Bool
 | some (.ok (.bl c_))=>b_
 | _=>c_
end G
namespace G
namespace PT
open PySem PySem.Spec PyProof.Rows L2 FD PySem.Builtin.Str
abbrev bo (b:Bool):Option (Rs Dv):=some (.ok (.bl b))
def one (c:Nat):Dv:=.str ⟨#[c]⟩
def allIn (x y:Str):Bool:=x.cps.toList.all fun c=>h_ (c∈y.cps.toList)
theorem all_map {α:Type} (p:α→Bool) (l:List α):iW [.lst (l.map fun a=>Dv.bl (p a))]=bo (l.all p):=by
 have e:∀ l:List α,gB (l.map fun a=>Dv.bl (p a))=some (l.map p):=by
  intro l
  induction l with
  | nil=>rfl
  | cons a l ih =>
   show (match gB (l.map fun a=>Dv.bl (p a)) with | some bs=>some (p a :: bs) | none=>none)=_
   rw [ih];rfl
 show (match gB (l.map fun a=>Dv.bl (p a)) with | some bs=>some (Rs.ok (Dv.bl (bs.all id))) | none=>none)=_
 rw [e l];simp [List.all_map]
theorem p7 (c:Nat) (y:Str):inS ⟨#[c]⟩ y=h_ (c∈y.cps.toList):=by
 rw [← LA];rfl
theorem z8 (c:Nat) (y:Str):inD (one c) (.str y)=bo (h_ (c∈y.cps.toList)):=by
 show some (Rs.ok (Dv.bl (inS ⟨#[c]⟩ y)))=_;have:inS ⟨#[c]⟩ y=h_ (c∈y.cps.toList):=by
  rw [← LA];rfl
 rw [this]
theorem hX (x:Str):items (.str x)=some (.ok (x.cps.toList.map one)):=rfl
theorem len_str {x:Str} (hx:x.length≤100000):bA [.str x]=some (.ok (.int (x.length:Int))):=by
 show (if x.length≤100000 then some (Rs.ok (Dv.int (x.length:Int))) else none)=_;rw [if_pos hx]
theorem gg {a b:FnB} {ρ:Ev} {x y:Bool} (ha:a ρ=some (.ok x)) (hb:b ρ=some (.ok y)):bOr a b ρ=some (.ok (x || y)):=by
 cases x
 · exact (oN ha).trans hb
 · exact rE ha
theorem z9 {a b:FnB} {ρ:Ev} {x y:Bool} (ha:a ρ=some (.ok x)) (hb:b ρ=some (.ok y)):kz a b ρ=some (.ok (x && y)):=by
 cases x
 · exact yU ha
 · exact (yT ha).trans hb
theorem ii {c:FnB} {d:Dv} {rest:FnS} {ρ:Ev} {b:Bool} (hc:c ρ=some (.ok b)):aG (bZ c (bb (fC d)) (fun ρ=>some (.nx ρ))) rest ρ=if b=b_ then some (.rt d) else rest ρ:=by
 unfold aG bZ;rw [hc];cases b <;> rfl
theorem p8 {x y:Str} {lo hi:Int} (hx:x.length≤100000):aD [.str x,.str y,.int lo,.int hi]=bo (h_ (lo≤(x.length:Int)) && h_ ((x.length:Int)≤hi) && allIn x y):=by
 refine bi ?_;show cr [some (.str x),some (.str y),some (.int lo),some (.int hi)]=_;unfold cr;have c1:(dL (fB (f1 (eQ dU) (ac 0)))) [some (.str x),some (.str y),some (.int lo),some (.int hi)]=some (.ok c_):=rfl;have l1:fB1 bA (aa (ac 0) ag) [some (.str x),some (.str y),some (.int lo),some (.int hi)]=some (.ok (.int (x.length:Int))):=(aW (ae (x:=.str x) rfl ai)).trans (len_str hx);have c2:=gg (a:=fB (f2 ltX (fB1 bA (aa (ac 0) ag)) (ac 2))) (b:=fB (f2 gtD (fB1 bA (aa (ac 0) ag)) (ac 3))) (x:=h_ ((x.length:Int) < lo)) (y:=h_ ((x.length:Int) > hi)) (aU ((aq (x:=.int (x.length:Int)) (y:=.int lo) l1 rfl).trans rfl)) (aU ((aq (x:=.int (x.length:Int)) (y:=.int hi) l1 rfl).trans rfl));rw [ao (cf c1),ii c2];have e:=cF (cs:=[("signs",1)]) (src:=cp (ac 0)) (elt:=f2 inD (ac 0) (ac 1)) (ρ:=[some (.str x),some (.str y),some (.int lo),some (.int hi)]) one (fun c=>Dv.bl (h_ (c∈y.cps.toList))) (l:=x.cps.toList) rfl (by rw [ES]; exact hx) fun c _=>(aq (x:=one c) (y:=.str y) rfl rfl).trans (z8 c y);have e2:=(aW (g:=iW) (ae e ai)).trans (all_map _ _);by_cases h1:(x.length:Int) < lo
 · rw [if_pos (by simp [h1])];have:h_ (lo≤(x.length:Int))=c_:=by simp; omega
   rw [this];rfl
 · by_cases h2:(x.length:Int) > hi
   · rw [if_pos (by simp [h2])];have:h_ ((x.length:Int)≤hi)=c_:=by simp; omega
     rw [this,Ij];rfl
   · rw [if_neg (by simp [h1]; omega)];have z1:h_ (lo≤(x.length:Int))=b_:=by simp; omega
     have z2:h_ ((x.length:Int)≤hi)=b_:=by simp; omega
     rw [z1,z2];exact aV e2
end PT
namespace PT
open PySem PySem.Spec PyProof.Rows L2 FD PySem.Builtin.Str
theorem kn (sep:Str):∀ (rest:List Str) (acc:Array Nat),(rest.foldl (fun acc p=>acc ++ sep.cps ++ p.cps) acc).toList=acc.toList ++ rest.flatMap fun p=>sep.cps.toList ++ p.cps.toList
 | [],acc=>by simp
 | p :: r,acc=>by
  rw [Ga,kn sep r];simp [Ie]
theorem eG (sep p:Str) (r:List Str):(glued sep (p :: r)).cps.toList=p.cps.toList ++ r.flatMap fun p=>sep.cps.toList ++ p.cps.toList:=kn sep r p.cps
theorem aT (x y:Str):glued y (u_ x y)=x:=by
 have h1:glued y [x]=x:=rfl;unfold u_;split
 · exact h1
 · split
   · exact h1
   · exact StrLaws.glued_between_self x y _
theorem cG (x y:Str):∃ p r,u_ x y=p :: r:=by
 unfold u_;split
 · exact ⟨_,_,rfl⟩
 · split
   · exact ⟨_,_,rfl⟩
   · unfold partsBetween;cases occurrences x y 0 x.length (x.length + 1) <;> exact ⟨_,_,rfl⟩
theorem fQ {x y p:Str} (hp:p∈u_ x y) {c:Nat} (hc:c∈p.cps.toList):c∈x.cps.toList:=by
 obtain ⟨q,r,e⟩:=cG x y;have h:=aT x y;rw [e] at h hp;rw [← h,eG];rcases q_.mp hp with rfl | hp
 · exact ET _ hc
 · exact o_ _ (Mb.mpr ⟨p,hp,o_ _ hc⟩)
theorem p9 {x y:Str} {c:Nat} (hc:c∈x.cps.toList) (hy:c ∉ y.cps.toList):∃ p∈u_ x y,c∈p.cps.toList:=by
 obtain ⟨q,r,e⟩:=cG x y;have h:=aT x y;rw [e] at h;rw [← h,eG] at hc;rw [e];rcases t_.mp hc with h1 | h1
 · exact ⟨q,g_,h1⟩
 · obtain ⟨p,hp,h2⟩:=Mb.mp h1;rcases t_.mp h2 with h3 | h3
   · exact absurd h3 hy
   · exact ⟨p,f_ _ hp,h3⟩
theorem ij {x y:Str} (hy:y.length=1):(u_ x y).length≤x.length + 1:=by
 have h:=K9 y (u_ x y);rw [aT,hy] at h;omega
theorem ui:∀ {l:List Nat} {a:Nat},a∈l→a≤l.sum
 | b :: l,a,h=>by
  rw [JA];rcases q_.mp h with rfl | h
  · omega
  · have:=ui h;omega
theorem db {x y p:Str} (hp:p∈u_ x y):p.length≤x.length:=by
 have h:=K9 y (u_ x y);rw [aT] at h;have:=ui (Fq.mpr ⟨p,hp,rfl⟩:p.length∈(u_ x y).map (·.length));omega
theorem et {x y:Str} (hx:x.length≤90000) (hy:y.length=1):bc x [.str y]=some (.ok (.lst ((u_ x y).map Dv.str))):=by
 have:=ij (x:=x) hy;show (if y.length≠0∧x.length≤100000∧(u_ x y).length≤100000 then some (Rs.ok (Dv.lst ((u_ x y).map Dv.str))) else none)=_;rw [if_pos ⟨by omega,by omega,by omega⟩]
end PT
namespace PT
open PySem PySem.Spec PyProof.Rows L2 FD PySem.Builtin.Str
def okY (o:Option (Rs Dv)):Bool:=match o with
 | some (.ok (.bl b_))=>b_
 | _=>c_
theorem ko (b:Bool):okY (bo b)=b:=by cases b <;> rfl
def nmB (x:Str):Bool:=okY (cu [.str x])
def ptB (x:Str):Bool:=okY (cw [.str x])
def lbB (x:Str):Bool:=okY (bU [.str x])
def mtB (x:Str):Bool:=okY (aI [.str x])
theorem mo {f g:FnE} {ρ:Ev} {a b:Bool} (hf:f ρ=bo a) (hg:g ρ=bo b):ip f g ρ=bo (a && b):=by
 cases a
 · exact tQ hf
 · exact (tR hf).trans hg
theorem qa {f:FnE} {ρ:Ev} {a:Bool} (hf:f ρ=bo a):mP f ρ=bo (!a):=by
 unfold mP;rw [hf];rfl
theorem allIn_mem {x y:Str} (h:allIn x y=b_) {c:Nat} (hc:c∈x.cps.toList):c∈y.cps.toList:=by
 have:=r_.mp h c hc;simpa using this
theorem qb (F:List Dv→Option (Rs Dv)) {f g k m:FnE} {ρ:Ev} {a b c d e:Dv} (h:f ρ=some (.ok a)) (h':g ρ=some (.ok b)) (h'':k ρ=some (.ok c)) (h3:m ρ=some (.ok d)) (hF:F [a,b,c,d]=some (.ok e)):aj F 4 (aa f (aa g (aa k (aa m ag)))) ρ=some (.ok e) :=
 cg (ae h (ae h' (ae h'' (ae h3 ai)))) rfl hF
def lsg:Str:=a_ "abcdefghijklmnopqrstuvwxyz0123456789-"
def psg:Str:=a_ "abcdefghijklmnopqrstuvwxyz0123456789-_./"
theorem Aa {x:Str} (hx:x.length≤90000):bU [.str x]=bo (lbB x)∧(lbB x=b_→x.length≤8∧allIn x lsg=b_):=by
 have key:∃ b,bU [.str x]=bo b∧(b=b_→x.length≤8∧allIn x lsg=b_):=by
  have t:=p8 (x:=x) (y:=lsg) (lo:=1) (hi:=8) (by omega);generalize hb:(h_ ((1:Int)≤(x.length:Int)) && h_ ((x.length:Int)≤8) && allIn x lsg)=b at t;have c1:(dL (fB (aj aD 4 (aa (ac 0) (aa (fC (.str "abcdefghijklmnopqrstuvwxyz0123456789-")) (aa (fC (.int 1)) (aa (fC (.int 8)) ag))))))) [some (.str x)]=some (.ok (!b)):=bS (aU (qb aD rfl rfl rfl rfl t));refine ⟨b && (!uk x (a_ "-") && !HX x (a_ "-")),bi ?_,fun h=>?_⟩
  · show dk [some (.str x)]=_;unfold dk;rw [ii c1];cases b
    · rfl
    · rw [Bool.true_and];exact aV (mo (a:=!uk x (a_ "-")) (b:=!HX x (a_ "-")) (qa (a:=uk x (a_ "-")) rfl) (qa (a:=HX x (a_ "-")) rfl))
  · rw [i_,← hb] at h;simp only [i_,decide_eq_true_eq] at h;exact ⟨by omega,h.1.2⟩
 obtain ⟨b,e,h⟩:=key;have:lbB x=b:=by unfold lbB; rw [e,ko]
 rw [this];exact ⟨e,h⟩
theorem pt_of {x:Str} (hx:x.length≤90000):cw [.str x]=bo (ptB x)∧(ptB x=b_→x.length≤20∧allIn x psg=b_):=by
 have key:∃ b,cw [.str x]=bo b∧(b=b_→x.length≤20∧allIn x psg=b_):=by
  have t:=p8 (x:=x) (y:=psg) (lo:=1) (hi:=20) (by omega);refine ⟨(h_ ((1:Int)≤(x.length:Int)) && h_ ((x.length:Int)≤20) && allIn x psg) && uk x (a_ "/"),bi ?_,fun h=>?_⟩
  · show ei [some (.str x)]=_;unfold ei;exact aV (mo (b:=uk x (a_ "/")) (qb aD rfl rfl rfl rfl t) rfl)
  · simp only [i_,decide_eq_true_eq] at h;exact ⟨by omega,h.1.2⟩
 obtain ⟨b,e,h⟩:=key;have:ptB x=b:=by unfold ptB; rw [e,ko]
 rw [this];exact ⟨e,h⟩
theorem qc {x:Str} (hx:x.length≤90000):aI [.str x]=bo (mtB x)∧mtB x=(h_ ((1:Int)≤(x.length:Int)) && h_ ((x.length:Int)≤4) && allIn x (a_ "0123456789")):=by
 have t:=p8 (x:=x) (y:=a_ "0123456789") (lo:=1) (hi:=4) (by omega);have e:aI [.str x]=bo (h_ ((1:Int)≤(x.length:Int)) && h_ ((x.length:Int)≤4) && allIn x (a_ "0123456789")):=by
  refine bi ?_;show aP [some (.str x)]=_;unfold aP;exact aV (qb aD rfl rfl rfl rfl t)
 have h:mtB x=(h_ ((1:Int)≤(x.length:Int)) && h_ ((x.length:Int)≤4) && allIn x (a_ "0123456789")):=by unfold mtB; rw [e,ko]
 exact ⟨by rw [h]; exact e,h⟩
end PT
namespace PT
open PySem PySem.Spec PyProof.Rows L2 FD PySem.Builtin.Str
theorem ww {P:List Str} (h:P≠[]):∃ p∈P,ixD (.lst (P.map Dv.str)) (.int (-1))=some (.ok (.str p)):=by
 have h0:0 < P.length:=List.length_pos_iff.mpr h;refine ⟨P[P.length - 1],Hu _,?_⟩;show (match atD (P.map Dv.str) (-1) with | some d=>some (Rs.ok d) | none=>none)=_
 unfold atD;rw [if_neg (by omega),if_pos (by rw [s_]; omega)];have e:((-1:Int) + ((P.map Dv.str).length:Int)).toNat=P.length - 1:=by rw [s_]; omega
 rw [e,Fh,Ff (by omega)];rfl
theorem fM_of {h:Str→List Dv→Option (Rs Dv)} {f:FnE} {g:FnA} {ρ:Ev} {x:Str} {ds:List Dv} (hf:f ρ=some (.ok (.str x))) (hg:g ρ=some (.ok ds)):fM h f g ρ=h x ds:=by
 unfold fM;rw [hf];show bnd (g ρ) _=_;rw [hg];rfl
theorem nm_of {x:Str} (hx:x.length≤90000):cu [.str x]=bo (nmB x)∧(nmB x=b_→x.length≤100∧∀ c∈x.cps.toList,c=46∨c∈lsg.cps.toList):=by
 have key:∃ b,cu [.str x]=bo b∧(b=b_→x.length≤100∧∀ c∈x.cps.toList,c=46∨c∈lsg.cps.toList):=by
  obtain ⟨P,hP⟩:∃ P,P=u_ x (a_ "."):=⟨_,rfl⟩;have y1:(a_ ".").length=1:=by kernel_rfl
  have sl:=ij (x:=x) y1;have s1:=et hx y1;rw [← hP] at s1 sl;have hne:P≠[]:=by
   obtain ⟨p,r,e⟩:=cG x (a_ ".");rw [hP,e]; simp
  have hlen:∀ p∈P,p.length≤90000:=fun p hp=>by
   rw [hP] at hp;have:=db hp;omega
  obtain ⟨q,hq,eq⟩:=ww hne;have t:=p8 (x:=q) (y:=a_ "0123456789") (lo:=1) (hi:=8) (by have:=hlen q hq; omega);generalize (h_ ((1:Int)≤(q.length:Int)) && h_ ((q.length:Int)≤8) && allIn q (a_ "0123456789"))=d at t;have v1:fM (bc) (ac 0) (aa (fC (.str ".")) ag) [some (.str x),none]=some (.ok (.lst (P.map Dv.str))):=(fM_of (x:=x) rfl (ae (x:=.str ".") rfl ai)).trans s1;have l1:fB1 bA (aa (ac 1) ag) [some (.str x),some (.lst (P.map Dv.str))]=some (.ok (.int (P.length:Int))):=(aW (ae (x:=.lst (P.map Dv.str)) rfl ai)).trans (by
   show some (Rs.ok (Dv.int ((P.map Dv.str).length:Int)))=_;rw [s_])
  have e:=cF (cs:=[]) (src:=cp (ac 1)) (elt:=aj bU 1 (aa (ac 0) ag)) (ρ:=[some (.str x),some (.lst (P.map Dv.str))]) Dv.str (fun p=>Dv.bl (lbB p)) (l:=P) rfl (by omega) fun p hp=>bT bU rfl (Aa (hlen p hp)).1;have e2:=(aW (g:=iW) (ae e ai)).trans (all_map _ _);have c2:=gg (a:=fB (f2 gtD (fB1 bA (aa (ac 1) ag)) (fC (.int 5)))) (aU ((aq (x:=.int (P.length:Int)) (y:=.int 5) l1 rfl).trans (show gtD (.int (P.length:Int)) (.int 5)=bo (h_ ((P.length:Int) > 5)) from rfl))) (bS (aU e2));refine ⟨!(h_ ((P.length:Int) > 5) || !P.all lbB) && !d,bi ?_,fun h=>?_⟩
  · show ef [some (.str x),none]=_;unfold ef;have c1:(dL (fB (f1 (eQ dU) (ac 0)))) [some (.str x),none]=some (.ok c_):=rfl;rw [ao (cf c1),ao (aB (ρ':=[some (.str x),some (.lst (P.map Dv.str))]) v1 rfl),ii c2];generalize (h_ ((P.length:Int) > 5) || !P.all lbB)=b;cases b
    · exact aV (qa (a:=d) (qb aD ((aq (x:=.lst (P.map Dv.str)) (y:=.int (-1)) rfl rfl).trans eq) rfl rfl rfl t))
    · rfl
  · rw [i_] at h;have h1:=h.1;simp only [Bool.not_or,Bool.not_not,i_] at h1;obtain ⟨n5,al⟩:=h1;have n5':P.length≤5:=by
     have:¬ ((P.length:Int) > 5):=by simpa using n5
     omega
    have each:∀ p∈P,p.length≤8∧allIn p lsg=b_:=fun p hp=>(Aa (hlen p hp)).2 (r_.mp al p hp);refine ⟨?_,fun c hc=>?_⟩
    · have sz:=K9 (a_ ".") (u_ x (a_ "."));rw [aT,y1,← hP] at sz;have:∀ l:List Str,(∀ p∈l,p.length≤8)→(l.map (·.length)).sum≤8 * l.length:=by
       intro l
       induction l with
       | nil=>intro _; simp
       | cons a l ih =>
        intro hl;have:=ih fun p hp=>hl p (f_ _ hp);have:=hl a g_;rw [Fe,JA,EV];omega
      have:=this P fun p hp=>(each p hp).1;omega
    · by_cases h46:c=46
      · exact .inl h46
      · obtain ⟨p,hp,hc2⟩:=p9 (y:=a_ ".") hc (by
         rw [show (a_ ".").cps.toList=[46] by kernel_rfl];simpa using h46)
        rw [← hP] at hp;exact .inr (allIn_mem (each p hp).2 hc2)
 obtain ⟨b,e,h⟩:=key;have:nmB x=b:=by unfold nmB; rw [e,ko]
 rw [this];exact ⟨e,h⟩
end PT
namespace PT
open PySem PySem.Spec PyProof.Rows L2 FD PySem.Builtin.Str
def Sg (x:Str):Prop:=∀ c∈x.cps.toList,c < 0x110000
def dgs:Str:=a_ "0123456789"
theorem gH:dgs.cps.toList=[48,49,50,51,52,53,54,55,56,57]:=by kernel_rfl
theorem Ab {c:Nat} (h:c < 0x110000):It1 0 (one c):=kj (by
 show (#[c]:Array Nat).all (· < 0x110000)=b_;simp [h])
theorem sH {l:List Nat} (h:∀ c∈l,c < 0x110000):neX (.lst (l.map one)) (.lst [])=bo (!l.isEmpty):=by
 cases l with
 | nil=>kernel_rfl
 | cons c r =>
  have i2:okP (.lst ((c :: r).map one))=b_:=(iM (k:=0) fun d hd=>by
   obtain ⟨a,ha,rfl⟩:=Fq.mp hd;exact Ab (h a ha)).okP (by omega)
  have i3:okP (.lst [])=b_:=by kernel_rfl
  show neX (.lst ((c :: r).map one)) (.lst [])=bo b_;unfold neX;rw [show eqS (.lst ((c :: r).map one)) (.lst [])=none from rfl,i2,i3];simp [bP,toPys,FH,Gh]
def mtV (x:Str):Int:=(HV x).getD 0
theorem uj {x:Str} (h:mtB x=b_) (hx:x.length≤90000):qM [.str x]=some (.ok (.int (mtV x))):=by
 rw [(qc hx).2] at h;simp only [i_,decide_eq_true_eq] at h;obtain ⟨⟨h1,h2⟩,h3⟩:=h;have hd:HN x.cps.toList:=by
  intro c hc;have:=r_.mp h3 c hc;rw [decide_eq_true_eq] at this;have:c∈dgs.cps.toList:=this;rw [gH] at this;simp only [q_,Fi,or_false] at this;omega
 have hl:x.length=x.cps.toList.length:=by rw [ES]; rfl
 have hn:x.cps.toList≠[]:=fun z=>by
  rw [z] at hl;simp at hl;omega
 have e:=Kr hd hn (by omega);show (if x.length≤640 then (match HV x with | some n=>some (Rs.ok (Dv.int n)) | none=>none) else none)=_
 unfold mtV;rw [if_pos (by omega),e];rfl
end PT
namespace PT
open PySem PySem.Spec PyProof.Rows L2 FD PySem.Builtin.Str
theorem bY (x y:Str):uk x y=b_↔∃ b,x.cps.toList=y.cps.toList ++ b:=by
 unfold uk subAt;rw [i_,decide_eq_true_eq,beq_iff_eq];have hx:x.length=x.cps.size:=rfl;have hy:y.length=y.cps.size:=rfl;constructor
 · rintro ⟨h1,h2⟩;refine ⟨x.cps.toList.drop y.length,?_⟩;have:(x.cps.extract 0 (0 + y.length)).toList=y.cps.toList:=by rw [h2]
   rw [IC] at this;simp only [Ht,Jl,Ho,Nat.sub_zero] at this;rw [← this,Im]
 · rintro ⟨b,h⟩;have hl:x.cps.size=y.cps.size + b.length:=by
    have:=congrArg HQ h;simpa using this
   refine ⟨by omega,Mf.mp ?_⟩;rw [IC];simp only [Ht,Jl,Ho,Nat.sub_zero];rw [h,hy];have:y.cps.size=y.cps.toList.length:=by simp
   rw [this,List.take_left'];rfl
theorem dI {c:Nat}:∀ {a a' b b':List Nat},a ++ c :: b=a' ++ c :: b'→c ∉ a→c ∉ a'→a=a'∧b=b'
 | [],[],b,b',h,_,_=>by simpa using h
 | [],x :: a',b,b',h,_,h2=>by
  simp only [Ki,JP,Hd] at h;exact absurd (h.1 ▸ g_) h2
 | x :: a,[],b,b',h,h1,_=>by
  simp only [Ki,JP,Hd] at h;exact absurd (h.1 ▸ g_) h1
 | x :: a,y :: a',b,b',h,h1,h2=>by
  simp only [JP,Hd] at h;obtain ⟨e1,e2⟩:=dI h.2 (fun z=>h1 (f_ _ z)) (fun z=>h2 (f_ _ z));exact ⟨by rw [h.1,e1],e2⟩
end PT
namespace PT
open PySem PySem.Spec PyProof.Rows L2 FD PySem.Builtin.Str
theorem wx (n len:Nat):strSliceIndices (some (n:Int)) none 1 len=(l_ (len - n)).map fun i=>n + i:=by
 unfold strSliceIndices K8;simp only [show (1:Int) > 0 by decide,if_true];rw [if_neg (by omega)];by_cases h:n < len
 · have e1:max (0:Int) (min (n:Int) (len:Int))=n:=by omega
   rw [e1];have e2:(((len:Int) - (n:Int) + 1 - 1) / 1).toNat=len - n:=by rw [LU]; omega
   simp only [show (n:Int) < (len:Int) by omega,if_true];rw [e2];refine Go fun i _=>?_;omega
 · have e1:max (0:Int) (min (n:Int) (len:Int))=len:=by omega
   rw [e1];have e3:len - n=0:=by omega
   rw [e3];simp
theorem wy {α:Type} (l:List α) (n:Nat):((l_ (l.length - n)).map fun i=>n + i).filterMap (fun i=>l[i]?)=l.drop n:=by
 rw [GH];apply Ig;intro i;have e:(l_ (l.length - n)).filterMap ((fun i=>l[i]?) ∘ fun i=>n + i)=(l_ (l.drop n).length).filterMap fun i=>(l.drop n)[i]?:=by
  rw [Gs];congr 1;funext i;simp
 rw [e];have:(l_ (l.drop n).length).filterMap (fun i=>(l.drop n)[i]?)=l.drop n:=by
  generalize l.drop n=m
  induction m with
  | nil=>rfl
  | cons a m ih =>
   rw [EV,G_,Gp];simp only [HR,GH];congr 1
 rw [this]
theorem eH (x:Str) (n:Nat):(FP x (some (n:Int)) none).cps.toList=x.cps.toList.drop n:=by
 unfold FP;rw [wx];have hl:x.length=x.cps.toList.length:=by rw [ES]; rfl
 split
 · rename_i h;simp only [i_,beq_iff_eq,s_,Hl] at h;have h2:x.length - n=x.length:=h.2;by_cases h0:n=0
   · rw [h0]; rfl
   · have:x.cps.toList=[]:=G0.mp (by omega);rw [this,List.drop_nil]
 · show (((l_ (x.length - n)).map fun i=>n + i).filterMap fun i=>x.cps[i]?)=_;rw [hl,← wy];congr 1;funext i;rw [FZ]
end PT
namespace PT
open PySem PySem.Spec PyProof.Rows L2 FD PySem.Builtin.Str
theorem spl (x:Str) (c:Nat):(c ∉ x.cps.toList∧u_ x ⟨#[c]⟩=[x])∨∃ a b:List Nat,x.cps.toList=a ++ c :: b∧c ∉ a∧((c ∉ b∧u_ x ⟨#[c]⟩=[⟨a.toArray⟩,⟨b.toArray⟩])∨(c∈b∧3≤(u_ x ⟨#[c]⟩).length)):=by
 obtain ⟨p,r,e⟩:=cG x ⟨#[c]⟩;have h:=aT x ⟨#[c]⟩;have hf:∀ q∈p :: r,c ∉ q.cps.toList:=fun q hq=>La x c q (by rw [e]; exact hq);rw [e] at h;have h2:x.cps.toList=p.cps.toList ++ r.flatMap fun p=>[c] ++ p.cps.toList:=by
  rw [← eG ⟨#[c]⟩ p r,h]
 rw [e];cases r with
 | nil =>
  have h3:x=p:=cZ (by rw [h2]; simp);refine .inl ⟨?_,by rw [h3]⟩;rw [h3];exact hf p g_
 | cons q r =>
  refine .inr ⟨p.cps.toList,q.cps.toList ++ r.flatMap fun p=>[c] ++ p.cps.toList,?_,hf p g_,?_⟩
  · rw [h2,Ie];simp
  · cases r with
    | nil =>
     refine .inl ⟨?_,?_⟩
     · simpa using hf q (by simp)
     · simp
    | cons z r =>
     refine .inr ⟨?_,?_⟩
     · rw [Ie];simp
     · simp
def Vs (l:List Nat):Prop:=∀ c∈l,32≤c∧c≤126
def nsg:Str:=a_ "abcdefghijklmnopqrstuvwxyzABCDEFGHIJKLMNOPQRSTUVWXYZ0123456789-_"
def m2 (c:Nat):Nat:=(fun d=>if d=95 then 97 else d) ((fun d=>if d=45 then 95 else d) c)
end PT
namespace PT
open PySem PySem.Spec PyProof.Rows L2 FD PySem.Builtin.Str
theorem ul (a b:Nat):h_ (([a]:List Nat) < [b])=h_ (a < b):=by
 rw [Fv,decide_eq_true_eq,decide_eq_true_eq];constructor
 · intro h;cases h with
   | rel h=>exact h
   | cons h=>cases h
 · intro h;exact List.Lex.rel h
def wC (c:Nat):Bool:=h_ (33≤c) && (h_ (c≤126) && !h_ (c∈(a_ ";,=").cps.toList))
def wB (b:Str):Bool:=h_ (b.length≤12) && b.cps.toList.all wC
theorem iO (c:Nat) (y:Str):dh (one c) (.str y)=bo (!h_ (c∈y.cps.toList)):=by
 show some (Rs.ok (Dv.bl (!inS ⟨#[c]⟩ y)))=_;rw [p7]
theorem wt_of {b:Str} (hb:b.length≤90000):du [.str b]=bo (wB b):=by
 refine bi ?_;show dt [some (.str b)]=_;unfold dt;have l1:fB1 bA (aa (ac 0) ag) [some (.str b)]=some (.ok (.int (b.length:Int))):=(aW (ae (x:=.str b) rfl ai)).trans (len_str (by omega));have c1:dL (fB (f1 (eQ dU) (ac 0))) [some (.str b)]=some (.ok c_):=rfl;have c2:fB (f2 gtD (fB1 bA (aa (ac 0) ag)) (fC (.int 12))) [some (.str b)]=some (.ok (h_ ((b.length:Int) > 12))):=aU ((aq (x:=.int (b.length:Int)) (y:=.int 12) l1 rfl).trans rfl);have e:=cF (cs:=[]) (src:=cp (ac 0)) (elt:=ip (f2 leX (fC (.str "!")) (ac 0)) (ip (f2 leX (ac 0) (fC (.str "~"))) (f2 dh (ac 0) (fC (.str ";,="))))) (ρ:=[some (.str b)]) one (fun c=>Dv.bl (wC c)) (l:=b.cps.toList) rfl (by rw [ES]; exact EW hb (by omega)) fun c _=>by
  have t1:f2 leX (fC (.str "!")) (ac 0) ((oE [] [some (.str b)]).set 0 (some (one c)))=bo (h_ (33≤c)):=(aq (x:=.str "!") (y:=one c) rfl rfl).trans (by
   show some (Rs.ok (Dv.bl (!h_ (([c]:List Nat) < [33]))))=_;rw [ul];congr 3;simp only [← decide_not];exact decide_eq_decide.mpr (by omega))
  have t2:f2 leX (ac 0) (fC (.str "~")) ((oE [] [some (.str b)]).set 0 (some (one c)))=bo (h_ (c≤126)):=(aq (x:=one c) (y:=.str "~") rfl rfl).trans (by
   show some (Rs.ok (Dv.bl (!h_ (([126]:List Nat) < [c]))))=_;rw [ul];congr 3;simp only [← decide_not];exact decide_eq_decide.mpr (by omega))
  have t3:f2 dh (ac 0) (fC (.str ";,=")) ((oE [] [some (.str b)]).set 0 (some (one c)))=bo (!h_ (c∈(a_ ";,=").cps.toList)):=(aq (x:=one c) (y:=.str ";,=") rfl rfl).trans (iO c _);exact mo t1 (mo t2 t3)
 have e2:=(aW (g:=iW) (ae e ai)).trans (all_map _ _);rw [ii (gg c1 c2),K6];unfold wB;by_cases h:(b.length:Int) > 12
 · rw [if_pos (by simpa using h)];have:h_ (b.length≤12)=c_:=by simp; omega
   rw [this];rfl
 · rw [if_neg (by simpa using h)];have:h_ (b.length≤12)=b_:=by simp; omega
   rw [this];exact aV e2
def nB (a:Str):Bool:=h_ ((1:Int)≤(a.length:Int)) && h_ ((a.length:Int)≤10) && allIn a nsg
theorem nn_of {a:Str} (ha:a.length≤90000):bC [.str a]=bo (nB a):=by
 refine bi ?_;show bB [some (.str a)]=_;unfold bB;exact aV (qb aD rfl rfl rfl rfl (p8 (by omega)))
end PT
end G
namespace G
open PySem PySem.Spec PyProof.Rows L2 FD
def nms:List Str:=[a_ "n",a_ "m-1",a_ "safe-a",a_ "N_2"]
def wts:List Str:=[a_ "5",a_ "",a_ "a!b~"]
theorem C1 {n:Str} (h:n∈nms):PT.nB n=b_:=fY (show nms.all PT.nB=b_ by kernel_rfl) h
theorem C3 {n:Str} (h:n∈wts):PT.wB n=b_:=fY (show wts.all PT.wB=b_ by kernel_rfl) h
theorem Ac {n:Str} (h:n∈menu):PT.nmB n=b_∧n.length≤90000:=by
 have:=fY (show (menu.all fun n=>PT.nmB n && h_ (n.length≤90000))=b_ by kernel_rfl) h;simpa using this
theorem Ad {n:Str} (h:n∈pths):PT.ptB n=b_∧n.length≤90000:=by
 have:=fY (show (pths.all fun n=>PT.ptB n && h_ (n.length≤90000))=b_ by kernel_rfl) h;simpa using this
theorem kq {n:Str} (h:PT.nB n=b_):n.length≤10∧PT.allIn n PT.nsg=b_:=by
 unfold PT.nB at h;simp only [i_,decide_eq_true_eq] at h;exact ⟨by omega,h.2⟩
theorem kr {n:Str} (h:PT.wB n=b_):n.length≤12∧n.cps.toList.all PT.wC=b_:=by
 unfold PT.wB at h;simp only [i_,decide_eq_true_eq] at h;exact ⟨by omega,h.2⟩
theorem Ey {n:Str} (h:PT.nB n=b_):bC [.str n]=bo b_:=by
 rw [PT.nn_of (by have:=(kq h).1; omega),h]
theorem Ez {n:Str} (h:PT.wB n=b_):du [.str n]=bo b_:=by
 rw [PT.wt_of (by have:=(kr h).1; omega),h]
theorem EA {n:Str} (h:PT.nmB n=b_):cu [.str n]=bo b_:=uh h
theorem EB {n:Str} (h:PT.ptB n=b_):cw [.str n]=bo b_:=uh h
theorem mq {l:List Dv} {d:Int} (h0:0≤d) (h1:d < l.length):∃ x∈l,ixD (.lst l) (.int d)=some (.ok x):=by
 have h2:d.toNat < l.length:=by omega
 refine ⟨l[d.toNat],Hu h2,?_⟩;show (match atD l d with | some d=>_ | none=>_)=_
 unfold atD;rw [if_pos h0,Ff h2]
theorem wz (i:Int):aN [.int i]=bo (h_ (0≤i) && h_ (i≤9999)):=by
 have e:aY [.int i,.int 0,.int 9999]=bo (h_ (0≤i) && h_ (i≤9999)):=by
  by_cases h0:0≤i
  · simp [aY,c8,aX,aG,sq,bZ,bb,kN,gy,bn,fr,bnd,bOr,kz,dL,fB,toB,aj,bQ,aa,ag,ac,fC,f1,f2,ixD,atD,vOr,ip,mP,fIf,df,bD,fB1,fM,di,gU,isN,mR,eQ,c9,eV,dU,iq,leX,h0]
  · simp [aY,c8,aX,aG,sq,bZ,bb,kN,gy,bn,fr,bnd,bOr,kz,dL,fB,toB,aj,bQ,aa,ag,ac,fC,f1,f2,ixD,atD,vOr,ip,mP,fIf,df,bD,fB1,fM,di,gU,isN,mR,eQ,c9,eV,dU,iq,leX,h0]
 simp [aN,c8,dG,aG,sq,bZ,bb,kN,gy,bn,fr,bnd,bOr,kz,dL,fB,toB,aj,bQ,aa,ag,ac,fC,f1,f2,ixD,atD,vOr,ip,mP,fIf,df,bD,fB1,fM,di,gU,isN,mR,eQ,c9,eV,dU,iq,e]
theorem wD {i:Int} (h0:0≤i) (h1:i≤9999):aN [.int i]=bo b_:=by
 rw [wz]; simp [h0,h1]
def Mo (u:Dv):Prop:=u=.non∨∃ i:Int,0≤i∧i≤9999∧u=.int i
theorem Ae {u:Dv} (h:Mo u):az [u]=bo b_:=by
 rcases h with rfl | ⟨i,h0,h1,rfl⟩
 · simp [az,c8,aC,aG,sq,bZ,bb,kN,gy,bn,fr,bnd,bOr,kz,dL,fB,toB,aj,bQ,aa,ag,ac,fC,f1,f2,ixD,atD,vOr,ip,mP,fIf,df,bD,fB1,fM,di,gU,isN,mR,eQ,c9,eV,dU,iq]
 · simp [az,c8,aC,aG,sq,bZ,bb,kN,gy,bn,fr,bnd,bOr,kz,dL,fB,toB,aj,bQ,aa,ag,ac,fC,f1,f2,ixD,atD,vOr,ip,mP,fIf,df,bD,fB1,fM,di,gU,isN,mR,eQ,c9,eV,dU,iq,wD h0 h1]
theorem qd {R:Str} (h:R=a_ "any"∨R=a_ "near"):dq [.str R]=bo b_∧∃ r,eqX (.str R) (.str "any")=bo r∧eqX (.str R) (.str "near")=bo (!r):=by
 rcases h with rfl | rfl
 · exact ⟨by kernel_rfl,b_,by kernel_rfl,by kernel_rfl⟩
 · exact ⟨by kernel_rfl,c_,by kernel_rfl,by kernel_rfl⟩
structure Note where
 nm:Str
 w:Str
 house:Str
 ex:Bool
 path:Str
 ends:Option Int
 S:Bool
 R:Str
 md:Int
 us:Int
deriving DecidableEq
def eO:Option Int→Dv
 | none=>.non
 | some i=>.int i
def enc (n:Note):Dv:=.tup [.str n.nm,.str n.w,.str n.house,.bl n.ex,.str n.path,eO n.ends,.bl n.S,.str n.R,.int n.md,.int n.us]
def ek (n:Note):Dv:=.tup [.str n.nm,.str n.house,.str n.path]
def key (n:Note):List Str:=[n.nm,n.house,n.path]
structure Good (n:Note):Prop where
 nm:PT.nB n.nm=b_
 w:PT.wB n.w=b_
 house:PT.nmB n.house=b_
 hl:n.house.length≤90000
 path:PT.ptB n.path=b_
 pl:n.path.length≤90000
 R:n.R=a_ "any"∨n.R=a_ "near"
 ends:∀ i,n.ends=some i→0≤i∧i≤9999
 mk0:0≤n.md
 mu:n.md≤n.us
 us:n.us≤9999
theorem C8 {n:Note} (g:Good n):Mo (eO n.ends):=by
 cases h:n.ends with
 | none=>exact .inl rfl
 | some i=>exact .inr ⟨i,(g.ends i h).1,by have:=(g.ends i h).2; omega,rfl⟩
theorem Ag {n:Note} (g:Good n):aS [enc n]=bo b_:=by
 have e0:bO [enc n,.int 10]=bo b_:=by kernel_rfl
 have e1:=wD g.mk0 (by have:=g.mu; have:=g.us; omega);have e2:=wD (Int.le_trans g.mk0 g.mu) (by have:=g.us; omega);have e3:az [eO n.ends]=bo b_:=Ae (C8 g);unfold enc at e0 ⊢;simp [aS,c8,dv,aG,sq,bZ,bb,kN,gy,bn,fr,bnd,bOr,kz,dL,fB,toB,aj,bQ,aa,ag,ac,fC,f1,f2,ixD,atD,vOr,ip,mP,fIf,df,bD,fB1,fM,di,gU,isN,mR,eQ,c9,eV,dU,iq,e0,e1,e2,Ey g.nm,Ez g.w,EA g.house,EB g.path,e3,(qd g.R).1,iW,gB,leX,g.mu]
theorem lx {x:Str} (h:PT.Vs x.cps.toList):It1 0 (.str x):=kj (by
 show x.cps.all (fun c=>h_ (c < 0x110000))=b_;rw [← JQ,r_];intro c hc;have:=h c hc;simp;omega)
theorem um {x y:Str} (h:PT.allIn x y=b_) (hy:(y.cps.toList.all fun c=>h_ (32≤c) && h_ (c≤126))=b_):PT.Vs x.cps.toList:=fun c hc=>by
 have:=r_.mp hy c (PT.allIn_mem h hc);simpa using this
theorem Good.vnm {n:Note} (g:Good n):PT.Vs n.nm.cps.toList:=um (kq g.nm).2 (by kernel_rfl)
theorem Good.vw {n:Note} (g:Good n):PT.Vs n.w.cps.toList:=fun c hc=>by
 have:=r_.mp (kr g.w).2 c hc;unfold PT.wC at this;simp only [i_,decide_eq_true_eq] at this;omega
theorem Good.vh {n:Note} (g:Good n):PT.Vs n.house.cps.toList:=fun c hc=>by
 rcases ((PT.nm_of g.hl).2 g.house).2 c hc with rfl | h
 · omega
 · have:=r_.mp (show (PT.lsg.cps.toList.all fun c=>h_ (32≤c) && h_ (c≤126))=b_ by kernel_rfl) c h;simpa using this
theorem Good.vp {n:Note} (g:Good n):PT.Vs n.path.cps.toList:=um ((PT.pt_of g.pl).2 g.path).2 (by kernel_rfl)
theorem EC {R:Str} (h:R=a_ "any"∨R=a_ "near"):It1 0 (.str R):=by
 rcases h with rfl | rfl <;> exact kj (by kernel_rfl)
theorem C9 (o:Option Int):It1 0 (eO o):=by cases o; exact z6; exact p6
theorem uo {n:Note} (g:Good n):It1 1 (enc n):=by
 refine p4 (k:=0) fun d hd=>?_;simp only [q_,Fi,or_false] at hd;rcases hd with rfl | rfl | rfl | rfl | rfl | rfl | rfl | rfl | rfl | rfl
 · exact lx g.vnm
 · exact lx g.vw
 · exact lx g.vh
 · exact z0
 · exact lx g.vp
 · exact C9 _
 · exact z0
 · exact EC g.R
 · exact p6
 · exact p6
theorem Ah {n:Note} (g:Good n):It1 1 (ek n):=by
 refine p4 (k:=0) fun d hd=>?_;simp only [q_,Fi,or_false] at hd;rcases hd with rfl | rfl | rfl
 · exact lx g.vnm
 · exact lx g.vh
 · exact lx g.vp
theorem Ai (a b:Note):FH (bP (ek a)) (bP (ek b))=h_ (key a=key b):=by
 rw [Fv];simp [ek,key,bP,toPys,FH,Gh]
theorem Da {a b:Note} (ga:Good a) (gb:Good b):eqX (ek a) (ek b)=bo (h_ (key a=key b))∧neX (ek a) (ek b)=bo (!h_ (key a=key b)):=by
 have h1:=(Ah ga).okP (by omega);have h2:=(Ah gb).okP (by omega);have h3:=Ai a b;have h0:eqS (ek a) (ek b)=none:=rfl;constructor
 · unfold eqX; rw [h0,h1,h2,h3]; rfl
 · unfold neX; rw [h0,h1,h2,h3]; rfl
def ej (js:List Note):Dv:=.tup (js.map enc)
structure Jar (js:List Note):Prop where
 g:∀ n∈js,Good n
 s:∀ i (h:i + 1 < js.length),js[i].md≤js[i + 1].md
 k:(js.map key).Nodup
 l:js.length≤20
theorem mr {α β:Type} {o:Option (Rs α)} {a:α} {k:α→Option (Rs β)} (h:o=some (.ok a)):bnd o k=k a:=by rw [h]; rfl
theorem rng_map:∀ (n:Nat) (lo:Int),rng lo n=(l_ n).map fun i:Nat=>Dv.int (lo + (i:Int))
 | 0,lo=>rfl
 | n + 1,lo=>by
  rw [G_];show Dv.int lo :: rng (lo + 1) n=_;rw [rng_map n (lo + 1)];simp only [Fe,GQ];congr 1
  · simp
  · congr 1;funext i;simp only [Function.comp];congr 1;omega
theorem ik {f g:dD} {ρ ρ':Ev} {ds ds':List Dv} (h:f ρ ds=some (.nx ρ' ds')):bK f g ρ ds=g ρ' ds':=by unfold bK; rw [h]
theorem wE {j:Nat} {f:FnE} {ρ ρ':Ev} {ds:List Dv} {d:Dv} (h:f ρ=some (.ok d)) (e:ρ.set j (some d)=ρ'):dj j f ρ ds=some (.nx ρ' ds):=by unfold dj; rw [h,← e]; rfl
theorem wF {xs:List Dv} {i:Nat} {ρ:Ev} (h:ρ[i]?=some (some (.lst xs))):cp (ac i) ρ=some (.ok xs):=by
 unfold cp ac;rw [h];rfl
theorem qe {js:List Note} {i:Nat} {ρ:Ev} (h:ρ[i]?=some (some (ej js))):cp (ac i) ρ=some (.ok (js.map enc)):=by
 unfold cp ac;rw [h];rfl
theorem wG {xs:List Note} (hg:∀ o∈xs,Good o):It1 2 (.lst (xs.map enc)):=iM fun d hd=>by
 obtain ⟨x,hx,rfl⟩:=Fq.mp hd;exact uo (hg x hx)
theorem it_ej {xs:List Note} (hg:∀ o∈xs,Good o):It1 2 (ej xs):=p4 fun d hd=>by
 obtain ⟨x,hx,rfl⟩:=Fq.mp hd;exact uo (hg x hx)
theorem Aj {xs:List Note} (hg:∀ o∈xs,Good o):eqX (.lst (xs.map enc)) (.lst [])=bo xs.isEmpty:=by
 cases xs with
 | nil=>kernel_rfl
 | cons o rest =>
  have i2:=(wG hg).okP (by omega);have i3:okP (.lst [])=b_:=by kernel_rfl
  unfold eqX;rw [show eqS (.lst ((o :: rest).map enc)) (.lst [])=none from rfl,i2,i3];simp [bP,toPys,FH,Gh]
theorem imms_ints:∀ l:List Int,imms (l.map Dv.int)=b_
 | []=>rfl
 | i :: l=>by show (imm (.int i) && imms (l.map Dv.int))=b_; rw [imms_ints l]; rfl
theorem qf (a b:Int):aH (.int a) (.int b)=some (.ok (.int (a + b))):=rfl
theorem Ak (n:Note):ni [enc n]=some (.ok (ek n)):=by simp [ni,c8,sG,aG,sq,bZ,bb,kN,gy,bn,fr,bnd,bOr,kz,dL,fB,toB,aj,bQ,aa,ag,ac,fC,f1,f2,ixD,atD,vOr,ip,mP,fIf,df,bD,fB1,fM,di,gU,isN,mR,eQ,c9,eV,dU,iq,enc,ek]
theorem kt:∀ js:List Note,hZ (js.map ek)=some (js.map key)
 | []=>rfl
 | n :: js=>by
  show (match iI [.str n.nm,.str n.house,.str n.path],hZ (js.map ek) with | some k,some ks=>some (k :: ks) | _,_=>none)=_
  rw [kt js];rfl
theorem qg {js:List Note}:((ST.ddk (js.map key)).length == js.length)=h_ ((js.map key).Nodup):=by
 have:=ST.ddk_eq (js.map key);rw [s_] at this;rw [Fv];simp [this]
theorem wH {js:List Note} (hl:js.length≤20):bq [ej js]=bo (h_ ((js.map key).Nodup)):=by
 have e1:cK 1 [] (cp (ac 0)) (gN 0) none (aj ni 1 (aa (ac 0) ag)) [some (ej js),none]=some (.ok (.lst (js.map ek))) :=
  pZ enc ek (qe rfl) (by omega) fun n hn=>bT ni rfl (Ak n)
 have e2:ib [.lst (js.map ek)]=some (.ok (.int (ST.ddk (js.map key)).length)):=by
  show (match hZ (js.map ek) with | some ks=>if ks.length≤20 then (some (.ok (.int (ST.ddk ks).length)):Option (Rs Dv)) else none | none=>none)=_
  rw [kt];dsimp only;rw [if_pos (by simp; omega)]
 refine bi ?_;show aR [some (ej js),none]=_;unfold aR;rw [ao (aB (ρ':=[some (ej js),some (.lst (js.map ek))]) e1 rfl)];refine aV ((aq ((aW (ae (x:=.lst (js.map ek)) rfl ai)).trans e2) (y:=.int js.length) (by show some (Rs.ok (Dv.int ((js.map ek).length:Int)))=_; rw [s_])).trans ?_);show some (Rs.ok (Dv.bl (((ST.ddk (js.map key)).length:Int) == (js.length:Int))))=_;rw [← qg];congr 3;rw [Fv];simp;omega
theorem all_map {α:Type} (p:α→Bool) (l:List α):iW [.lst (l.map fun a=>Dv.bl (p a))]=bo (l.all p):=by
 unfold iW;dsimp only;rw [ki p l];dsimp only;rw [List.all_map];rfl
theorem sI {α:Type} (l:List α):iW [.lst (l.map fun _=>Dv.bl b_)]=bo b_:=by
 rw [all_map (fun _=>b_) l];simp
theorem Al {js:List Note} {i:Nat} (h:i < js.length):ixD (ej js) (.int i)=some (.ok (enc js[i])):=by
 show (match atD (js.map enc) (i:Int) with | some d=>_ | none=>_)=_
 unfold atD;rw [if_pos (by omega)];simp [h]
theorem Am (n:Note):ixD (enc n) (.int 8)=some (.ok (.int n.md)):=rfl
theorem An (js:List Note) (hl:js.length≤20):(fun ρ=>bnd ((aa (fC (.int 1)) (aa (fB1 bA (aa (ac 0) ag)) ag)) ρ) rf) [some (ej js)]=some (.ok ((l_ (js.length - 1)).map fun i:Nat=>Dv.int (1 + (i:Int)))):=by
 have h:(aa (fC (.int 1)) (aa (fB1 bA (aa (ac 0) ag)) ag)) [some (ej js)]=some (.ok [.int 1,.int js.length]):=by
  simp [bnd,aa,ag,fB1,fC,ac,ej,bA]
 refine (mr (k:=rf) h).trans ?_;rw [zZ (by omega),rng_map,show ((js.length:Int) - 1).toNat=js.length - 1 by omega]
def DV:FnE:=(f2 leX (f2 ixD (f2 ixD (ac 1) (f2 oG (ac 0) (fC (.int 1)))) (fC (.int 8))) (f2 ixD (f2 ixD (ac 1) (ac 0)) (fC (.int 8))))
def qN (js:List Note) (i:Nat):Int:=(js[i]?.map Note.md).getD 0
def riB (js:List Note):Bool:=(l_ (js.length - 1)).all fun i=>h_ (qN js i≤qN js (i + 1))
theorem gh {js:List Note} {i:Nat} (h:i < js.length):qN js i=js[i].md:=by
 unfold qN;rw [Ff h];rfl
theorem Ao {js:List Note} {i:Nat} (hi':i + 1 < js.length):DV [some (.int (1 + (i:Int))),some (ej js)]=some (.ok (.bl (h_ (qN js i≤qN js (i + 1))))):=by
 have h1:f2 ixD (ac 1) (f2 oG (ac 0) (fC (.int 1))) [some (.int (1 + (i:Int))),some (ej js)]=some (.ok (enc js[i])):=by
  have q:=Al (js:=js) (i:=i) (by omega);rw [show (i:Int)=1 + (i:Int) - 1 by omega] at q;exact q
 have h2:f2 ixD (ac 1) (ac 0) [some (.int (1 + (i:Int))),some (ej js)]=some (.ok (enc js[i + 1])):=by
  have q:=Al (js:=js) (i:=i + 1) hi';rw [show ((i + 1:Nat):Int)=1 + (i:Int) by omega] at q;exact q
 rw [gh (show i < js.length by omega),gh hi'];exact (aq ((aq h1 rfl).trans (Am _)) ((aq h2 rfl).trans (Am _))).trans rfl
theorem Ap {js:List Note} (hl:js.length≤20):da [ej js]=bo (riB js):=by
 have e:=cF (cs:=[("notes",0)]) (src:=(fun ρ=>bnd ((aa (fC (.int 1)) (aa (fB1 bA (aa (ac 0) ag)) ag)) ρ) rf)) (elt:=DV) (ρ:=[some (ej js)]) (fun i:Nat=>Dv.int (1 + (i:Int))) (fun i:Nat=>Dv.bl (h_ (qN js i≤qN js (i + 1)))) (An js hl) (by rw [Hl]; omega) fun i hi=>Ao (by have:=Fd.mp hi; omega);exact bi (d:=.bl (riB js)) (aV ((aW (ae e ai)).trans (all_map (fun i:Nat=>h_ (qN js i≤qN js (i + 1))) _)))
def isJ (js:List Note):Bool:=riB js && h_ ((js.map key).Nodup)
theorem Aq {js:List Note} (hg:∀ n∈js,Good n) (hl:js.length≤20):bg [ej js]=bo (isJ js):=by
 have ta:cz [] (cp (ac 0)) none (aj aS 1 (aa (ac 0) ag)) [some (ej js)]=some (.ok (.lst (js.map fun _=>Dv.bl b_))) :=
  cF enc (fun _=>Dv.bl b_) (qe rfl) (by omega) fun n hn=>bT aS rfl (Ag (hg n hn))
 have tb:(bOr (dL (fB (f1 (eQ eV) (ac 0)))) (fB (f2 gtD (fB1 bA (aa (ac 0) ag)) (fC (.int 20))))) [some (ej js)]=some (.ok c_):=by
  have e3:¬ (20 < (js.length:Int)):=by omega
  simp [aG,sq,bOr,dL,fB,f1,f2,eQ,eV,ac,bnd,toB,fB1,aa,ag,fC,ej,bA,B6,e3]
 have tc:fB1 iW (aa (cz [] (cp (ac 0)) none (aj aS 1 (aa (ac 0) ag))) ag) [some (ej js)]=bo b_:=(aW (ae ta ai)).trans (sI js);refine bi ?_;show cD [some (ej js)]=_;unfold cD;rw [ao (cf tb)];rw [ao (cf (bS (k:=b_) (aU tc)))];refine aV ?_;have hm:=bT da (f:=ac 0) (ρ:=[some (ej js)]) rfl (Ap hl);unfold isJ;cases hr:riB js with
 | false=>rw [hr] at hm; rw [tQ hm]; rfl
 | true=>rw [hr] at hm; rw [tR hm]; exact bT bq rfl (wH hl)
theorem Ar {js:List Note} (hg:∀ n∈js,Good n) (hl:js.length≤20) (h:isJ js=b_):Jar js:=by
 unfold isJ at h;rw [i_,decide_eq_true_eq] at h;refine ⟨hg,fun i hi=>?_,h.2,hl⟩;have:=r_.mp h.1 i (Fd.mpr (by omega));rw [decide_eq_true_eq,gh (show i < js.length by omega),gh hi] at this;exact this
theorem As {js:List Note} (J:Jar js):isJ js=b_:=by
 unfold isJ;rw [i_,decide_eq_true_eq];refine ⟨r_.mpr fun i hi=>?_,J.k⟩;have hi':i + 1 < js.length:=by have:=Fd.mp hi; omega
 rw [decide_eq_true_eq,gh (show i < js.length by omega),gh hi'];exact J.s i hi'
theorem wI {js:List Note} (J:Jar js):bg [ej js]=bo b_:=by rw [Aq J.g J.l,As J]
structure JI (B:Nat) (js:List Note) (now:Int):Prop where
 g:∀ n∈js,Good n
 s:js.Pairwise fun a b=>a.md≤b.md
 k:(js.map key).Nodup
 l:js.length≤B
 n0:0≤now
 n1:now≤3 * B
 m:∀ n∈js,n.md≤now
theorem JI.keep {B:Nat} {js:List Note} {now d:Int} (J:JI B js now) (h0:0≤d) (h1:d < 4):JI (B + 1) js (now + d) :=
 ⟨J.g,J.s,J.k,by have:=J.l; omega,by have:=J.n0; omega,by have:=J.n1; omega,fun n hn=>by have:=J.m n hn; omega⟩
theorem JI.add {B:Nat} {js:List Note} {now d:Int} {n:Note} (J:JI B js now) (h0:0≤d) (h1:d < 4) (g:Good n) (hm:n.md=now + d) (hf:js.filter (fun o=>h_ (key o=key n))=[]):JI (B + 1) (js ++ [n]) (now + d):=by
 have hk:∀ o∈js,key o≠key n:=fun o ho e=>by
  have:o∈js.filter (fun o=>h_ (key o=key n)):=HE.mpr ⟨ho,by simp [e]⟩;rw [hf] at this; cases this
 refine ⟨fun x hx=>?_,?_,?_,by have:=J.l; simp; omega,by have:=J.n0; omega,by have:=J.n1; omega,fun x hx=>?_⟩
 · rcases t_.mp hx with h | h
   · exact J.g x h
   · rw [Fc.mp h]; exact g
 · refine KC.mpr ⟨J.s,List.pairwise_singleton ..,fun a ha b hb=>?_⟩;rw [Fc.mp hb,hm];have:=J.m a ha;omega
 · rw [Gq];refine List.nodup_append.mpr ⟨J.k,by simp,fun a ha b hb e=>?_⟩;obtain ⟨o,ho,rfl⟩:=Fq.mp ha;simp only [Fe,LQ,Fc] at hb;exact hk o ho (e.trans hb)
 · rcases t_.mp hx with h | h
   · have:=J.m x h; omega
   · rw [Fc.mp h,hm]; omega
theorem JI.jar {B:Nat} {js:List Note} {now:Int} (J:JI B js now) (hB:B≤18):Jar js :=
 ⟨J.g,fun i h=>Jk.mp J.s i (i + 1) (by omega) h (by omega),J.k,by have:=J.l; omega⟩
def jb (ns:List Int) (z m now:Int):Ev:=[some (.scr ns),some (.int z),some (.int m),none,some (.int now),none,none,none,none,none,none,none,none,none,none,none]
def cJ:FnB:=(fB (f2 eqX (cz [("_law_note",15)] (cp (ac 3)) (some (fB (f2 eqX (df (aa (f2 ixD (ac 0) (fC (.int 0))) (aa (f2 ixD (ac 0) (fC (.int 2))) (aa (f2 ixD (ac 0) (fC (.int 4))) ag)))) (df (aa (f2 ixD (ac 1) (fC (.int 0))) (aa (f2 ixD (ac 1) (fC (.int 2))) (aa (f2 ixD (ac 1) (fC (.int 4))) ag))))))) (ac 0)) (bD ag)))
theorem Db {js:List Note} {n:Note} {ρ:Ev} (hg:∀ o∈js,Good o) (gn:Good n) (hl:js.length≤18) (h3:ρ[3]?=some (some (.lst (js.map enc)))) (h15:ρ[15]?=some (some (enc n))):cJ ρ=some (.ok (js.filter (fun o=>h_ (key o=key n))).isEmpty):=by
 have hc:oE [("_law_note",15)] ρ=[none,some (enc n)]:=by simp [oE,h15]
 have e1:=kh (cs:=[("_law_note",15)]) (src:=cp (ac 3)) (tst:=(fB (f2 eqX (df (aa (f2 ixD (ac 0) (fC (.int 0))) (aa (f2 ixD (ac 0) (fC (.int 2))) (aa (f2 ixD (ac 0) (fC (.int 4))) ag)))) (df (aa (f2 ixD (ac 1) (fC (.int 0))) (aa (f2 ixD (ac 1) (fC (.int 2))) (aa (f2 ixD (ac 1) (fC (.int 4))) ag))))))) (elt:=ac 0) (ρ:=ρ) enc (fun o=>h_ (key o=key n)) enc (wF h3) (by omega) fun o ho=>⟨by
  rw [hc];exact aU ((aq (x:=ek o) (y:=ek n) rfl rfl).trans (Da (hg o ho) gn).1),by rw [hc]; rfl⟩
 exact aU ((aq e1 rfl).trans (Aj fun o ho=>hg o (HE.mp ho).1))
theorem qh (ns:List Int) (hl:ns.length≤63) (z m now k:Int) {B:Nat} {js:List Note} (J:JI B js now) (hB:B≤10) :
 ∃ ρ' js' now',aM ((jb ns z m now).set 5 (some (.int k))) (js.map enc)=some (.nx ρ' (js'.map enc))∧fgt [5,6,7,8,9,10,11,12,13,14,15] ρ'=jb ns z m now'∧JI (B + 1) js' now':=by
 obtain ⟨here,hh⟩:∃ here,here=z + 1 + 14 * k:=⟨_,rfl⟩;obtain ⟨d0,a0,b0,e0⟩:=drawn_ok ns hl here 4 (by omega);obtain ⟨d1,a1,b1,e1⟩:=drawn_ok ns hl (here + 1) 4 (by omega);obtain ⟨d2,a2,b2,e2⟩:=drawn_ok ns hl (here + 2) 3 (by omega);obtain ⟨d4,a4,b4,e4⟩:=drawn_ok ns hl (here + 4) 2 (by omega);obtain ⟨d6,a6,b6,e6⟩:=drawn_ok ns hl (here + 6) 2 (by omega);obtain ⟨d7,a7,b7,e7⟩:=drawn_ok ns hl (here + 7) 60 (by omega);obtain ⟨d8,a8,b8,e8⟩:=drawn_ok ns hl (here + 8) 2 (by omega);obtain ⟨d9,a9,b9,e9⟩:=drawn_ok ns hl (here + 9) 3 (by omega);obtain ⟨d10,a10,b10,e10⟩:=drawn_ok ns hl (here + 10) 5 (by omega);obtain ⟨n3,hn3,e3⟩:=wu ns hl (here + 3);obtain ⟨p5,hp5,e5⟩:=wv ns hl (here + 5);obtain ⟨x1,m1,i1⟩:=mq (l:=[.str "n",.str "m-1",.str "safe-a",.str "N_2"]) a1 b1;obtain ⟨x2,m2,i2⟩:=mq (l:=[.str "5",.str "",.str "a!b~"]) a2 b2;obtain ⟨x6,m6,i6⟩:=mq (l:=[.non,.int d7]) a6 b6;obtain ⟨x9,m9,i9⟩:=mq (l:=[.str "any",.str "any",.str "near"]) a9 b9;have g1:∃ nm∈nms,x1=.str nm:=by
  simp only [q_,Fi,or_false] at m1;rcases m1 with rfl | rfl | rfl | rfl <;> exact ⟨_,by simp [nms],rfl⟩
 have g2:∃ nm∈wts,x2=.str nm:=by
  simp only [q_,Fi,or_false] at m2;rcases m2 with rfl | rfl | rfl <;> exact ⟨_,by simp [wts],rfl⟩
 have g6:∃ o:Option Int,(∀ i,o=some i→0≤i∧i≤9999)∧x6=eO o:=by
  simp only [q_,Fi,or_false] at m6;rcases m6 with rfl | rfl
  · exact ⟨none,by simp,rfl⟩
  · exact ⟨some d7,fun i hi=>by cases hi; omega,rfl⟩
 have g9:∃ R,(R=a_ "any"∨R=a_ "near")∧x9=.str R:=by
  simp only [q_,Fi,or_false] at m9;rcases m9 with rfl | rfl | rfl
  · exact ⟨_,.inl rfl,rfl⟩
  · exact ⟨_,.inl rfl,rfl⟩
  · exact ⟨_,.inr rfl,rfl⟩
 obtain ⟨nm,hnm,rfl⟩:=g1;obtain ⟨w,hw,rfl⟩:=g2;obtain ⟨o,ho,rfl⟩:=g6;obtain ⟨R,hR,rfl⟩:=g9
 let n:Note:=⟨nm,w,n3,d4 == 0,p5,o,d8 == 0,R,now + d0,now + d0 + d10⟩
 have q0:=J.n0;have q1:=J.n1;have gn:Good n:=⟨C1 hnm,C3 hw,(Ac hn3).1,(Ac hn3).2,(Ad hp5).1,(Ad hp5).2,hR,ho,by show 0≤now + d0; omega,by show now + d0≤now + d0 + d10; omega,by show now + d0 + d10≤9999; omega⟩
 let E15:Ev:=[some (.scr ns),some (.int z),some (.int m),none,some (.int (now + d0)),some (.int k),some (.int here),some (.str nm),some (.str w),some (eO o),some (.bl (d4 == 0)),some (.tup [.str nm,.str w,.str n3,.bl (d4 == 0),.str p5]),some (.str R),some (.bl (d8 == 0)),some (.int (now + d0 + d10)),some (enc n)]
 have hc:=Db (ρ:=E15.set 3 (some (.lst (js.map enc)))) J.g gn (by have:=J.l; omega) rfl rfl;have hmul:gr (.int 14) (.int k)=some (.ok (.int (14 * k))):=kl (.inl (by omega));have hrun:aM ((jb ns z m now).set 5 (some (.int k))) (js.map enc)=vm 3 cJ (gC (ac 15)) tX E15 (js.map enc):=by
  have eB:aM=(bK (dj 6 (f2 aH (f2 aH (ac 1) (fC (.int 1))) (f2 gr (fC (.int 14)) (ac 5)))) (bK (dj 4 (f2 aH (ac 4) (aj ah 3 (aa (ac 0) (aa (ac 6) (aa (fC (.int 4)) ag)))))) (bK (dj 7 (f2 ixD (bD (aa (fC (.str "n")) (aa (fC (.str "m-1")) (aa (fC (.str "safe-a")) (aa (fC (.str "N_2")) ag))))) (aj ah 3 (aa (ac 0) (aa (f2 aH (ac 6) (fC (.int 1))) (aa (fC (.int 4)) ag)))))) (bK (dj 8 (f2 ixD (bD (aa (fC (.str "5")) (aa (fC (.str "")) (aa (fC (.str "a!b~")) ag)))) (aj ah 3 (aa (ac 0) (aa (f2 aH (ac 6) (fC (.int 2))) (aa (fC (.int 3)) ag)))))) (bK (dj 9 (f2 ixD (bD (aa (fC .non) (aa (aj ah 3 (aa (ac 0) (aa (f2 aH (ac 6) (fC (.int 7))) (aa (fC (.int 60)) ag)))) ag))) (aj ah 3 (aa (ac 0) (aa (f2 aH (ac 6) (fC (.int 6))) (aa (fC (.int 2)) ag)))))) (bK (dj 10 (f2 eqX (aj ah 3 (aa (ac 0) (aa (f2 aH (ac 6) (fC (.int 4))) (aa (fC (.int 2)) ag)))) (fC (.int 0)))) (bK (dj 11 (df (aa (ac 7) (aa (ac 8) (aa (aj cP 2 (aa (ac 0) (aa (f2 aH (ac 6) (fC (.int 3))) ag))) (aa (ac 10) (aa (aj cQ 2 (aa (ac 0) (aa (f2 aH (ac 6) (fC (.int 5))) ag))) ag))))))) (bK (dj 12 (f2 ixD (bD (aa (fC (.str "any")) (aa (fC (.str "any")) (aa (fC (.str "near")) ag)))) (aj ah 3 (aa (ac 0) (aa (f2 aH (ac 6) (fC (.int 9))) (aa (fC (.int 3)) ag)))))) (bK (dj 13 (f2 eqX (aj ah 3 (aa (ac 0) (aa (f2 aH (ac 6) (fC (.int 8))) (aa (fC (.int 2)) ag)))) (fC (.int 0)))) (bK (dj 14 (f2 aH (ac 4) (aj ah 3 (aa (ac 0) (aa (f2 aH (ac 6) (fC (.int 10))) (aa (fC (.int 5)) ag)))))) (bK (dj 15 (f2 aH (ac 11) (df (aa (ac 9) (aa (ac 13) (aa (ac 12) (aa (ac 4) (aa (ac 14) ag)))))))) (vm 3 cJ (gC (ac 15)) tX)))))))))))):=rfl;rw [eB];subst hh;simp [jb,bK,dj,lV,bnd,aj,aa,ag,ac,fC,f2,df,bD,qf,hmul,e0,e1,e2,e3,e4,e5,e6,e7,e8,e9,e10,i1,i2,i6,i9,eqX,eqS,E15,enc,n];simp [aH]
 rw [hrun];cases hf:(js.filter (fun o=>h_ (key o=key n))) with
 | nil =>
  rw [hf] at hc;refine ⟨E15,js ++ [n],now + d0,?_,rfl,J.add a0 b0 gn rfl hf⟩;unfold vm;rw [hc];show (if (js.map enc).length < 100000 then _ else _)=_;rw [if_pos (by have:=J.l; simp; omega)];show some (Fo.nx _ (js.map enc ++ [enc n]))=_;simp
 | cons c r =>
  rw [hf] at hc;refine ⟨E15,js,now + d0,?_,rfl,J.keep a0 b0⟩;unfold vm;rw [hc];rfl
theorem ms (ns:List Int) (hl:ns.length≤63) (z m:Int):∀ (ks:List Int) (ρ:Ev) (now:Int) (B:Nat) (js:List Note),B + ks.length≤10→fgt [5,6,7,8,9,10,11,12,13,14,15] ρ=jb ns z m now→JI B js now →
 ∃ js' now',dc 5 [5,6,7,8,9,10,11,12,13,14,15] aM (ks.map Dv.int) ρ (js.map enc)=some (.nx (jb ns z m now') (js'.map enc))∧JI (B + ks.length) js' now'
 | [],ρ,now,B,js,_,hρ,J=>⟨js,now,by show some (Fo.nx _ _)=_; rw [hρ],J⟩
 | k :: ks,ρ,now,B,js,hb,hρ,J=>by
  simp only [EV] at hb;obtain ⟨ρ',js',now',e,hρ',J'⟩:=qh ns hl z m now k J (by omega);obtain ⟨js2,now2,e2,J2⟩:=ms ns hl z m ks ρ' now' (B + 1) js' (by omega) hρ' J';refine ⟨js2,now2,?_,by rw [EV,show B + (ks.length + 1)=B + 1 + ks.length by omega]; exact J2⟩;show (match aM ((fgt _ ρ).set 5 (some (.int k))) (js.map enc) with
   | some (.nx ρ' xs')=>dc 5 _ aM (ks.map Dv.int) ρ' xs'
   | o=>o)=_
  rw [hρ,e];exact e2
theorem jar_ok (ns:List Int) (hl:ns.length≤63) (z:Int) (m:Nat) (hm:m≤8):∃ js now,eF [.scr ns,.int z,.int m]=some (.ok (ej js))∧Jar js∧js.length≤m∧JI m js now:=by
 obtain ⟨d,a0,b0,e0⟩:=drawn_ok ns hl z (m + 1) (by omega);obtain ⟨c,rfl⟩:∃ c:Nat,d=(c:Int):=⟨d.toNat,by omega⟩;have hr:gz [.int (c:Int)]=some (.ok (((l_ c).map fun i:Nat=>(i:Int)).map Dv.int)):=by
  rw [p3 (by omega),rng_map];simp
 obtain ⟨js,now,e,J⟩:=ms ns hl z m ((l_ c).map fun i:Nat=>(i:Int)) (jb ns z m 0) 0 0 [] (by simp; omega) rfl ⟨by simp,Ii,by simp,by simp,by omega,by omega,by simp⟩;have hlen:((l_ c).map fun i:Nat=>(i:Int)).length=c:=by simp
 rw [hlen] at J;have J5:=J.l;refine ⟨js,now,?_,J.jar (by omega),by omega,⟨J.g,J.s,J.k,by omega,J.n0,by have:=J.n1; omega,J.m⟩⟩;refine bi (d:=ej js) ?_;show qL 3 ag _ [some (.scr ns),some (.int z),some (.int m),none,none,none,none,none,none,none,none,none,none,none,none,none]=_;have hsrc:(fun ρ=>bnd ((aa (aj ah 3 (aa (ac 0) (aa (ac 1) (aa (f2 aH (ac 2) (fC (.int 1))) ag)))) ag) ρ) gz) (jb ns z m 0)=some (.ok (((l_ c).map fun i:Nat=>(i:Int)).map Dv.int)):=by
  have h:(aa (aj ah 3 (aa (ac 0) (aa (ac 1) (aa (f2 aH (ac 2) (fC (.int 1))) ag)))) ag) (jb ns z m 0)=some (.ok [.int (c:Int)]):=by
   simp [bnd,aa,ag,aj,fC,ac,f2,jb,qf,e0]
  exact (mr (k:=gz) h).trans hr
 have hfor:i5 5 [5,6,7,8,9,10,11,12,13,14,15] (fun ρ=>bnd ((aa (aj ah 3 (aa (ac 0) (aa (ac 1) (aa (f2 aH (ac 2) (fC (.int 1))) ag)))) ag) ρ) gz) aM (jb ns z m 0) []=some (.nx (jb ns z m now) (js.map enc)):=by
  unfold i5;rw [hsrc];show (if imms (((l_ c).map fun i:Nat=>(i:Int)).map Dv.int)=b_ then _ else none)=_;rw [if_pos (imms_ints _)];exact e
 have hle:js.length≤100000:=by omega
 have hret:ny 3 (fB1 dO (aa (ac 3) ag)) (jb ns z m now) (js.map enc)=some (.rt (ej js)):=by
  unfold ny;rw [aW (ae (x:=.lst (js.map enc)) rfl ai)];rfl
 have hbody:(bK (dj 4 (fC (.int 0))) (bK (i5 5 [5,6,7,8,9,10,11,12,13,14,15] (fun ρ=>bnd ((aa (aj ah 3 (aa (ac 0) (aa (ac 1) (aa (f2 aH (ac 2) (fC (.int 1))) ag)))) ag) ρ) gz) aM) (ny 3 (fB1 dO (aa (ac 3) ag))))) [some (.scr ns),some (.int z),some (.int m),none,none,none,none,none,none,none,none,none,none,none,none,none] []=some (.rt (ej js)):=by
  rw [ik (show dj 4 (fC (.int 0)) [some (.scr ns),some (.int z),some (.int m),none,none,none,none,none,none,none,none,none,none,none,none,none] []=some (.nx (jb ns z m 0) []) from rfl)];rw [ik hfor];exact hret
 unfold qL;show (if ([]:List Dv).length≤100000 then _ else none)=_;rw [if_pos (by simp)];exact (congrArg (fun o=>match o with | some (Fo.nx ρ' ds')=>some (Fl.nx (List.set ρ' 3 (some (Dv.lst ds')))) | some (Fo.rt d)=>some (Fl.rt d) | none=>none) hbody).trans rfl
theorem cx (a b:Str):(a ++ b).length=a.length + b.length:=Jx
theorem Au (a:Str):a ++ a_ ""=a:=by
 show Str.mk (a.cps ++ #[])=a;rw [Array.append_empty]
def step (t:Str) (o:Option Str):Str:=match o with
 | none=>t
 | some y=>t ++ a_ "; " ++ y
theorem fR (sep:Str):∀ (l:List Str) (x:Str),Gy sep (x :: l)=l.foldl (fun t y=>t ++ sep ++ y) x
 | [],x=>rfl
 | y :: l,x=>fR sep l (x ++ sep ++ y)
theorem il:∀ l:List Str,texts (l.map Dv.str)=some l
 | []=>rfl
 | x :: l=>by
  show (match texts (l.map Dv.str) with | some xs=>some (x :: xs) | none=>none)=_
  rw [il l]
theorem jw (sep:Str) (B:Nat):∀ (l:List Str) (n:Nat),(∀ t∈l,t.length≤B)→l.foldl (fun a t=>a + t.length + sep.length) n≤n + l.length * (B + sep.length)
 | [],n,_=>by simp
 | t :: l,n,h=>by
  have ih:=jw sep B l (n + t.length + sep.length) fun x hx=>h x (f_ _ hx);have h0:=h t g_;show l.foldl _ (n + t.length + sep.length)≤_;rw [EV,IU];omega
def is (i:Int):Str:=a_ (toString i)
theorem sJ {i:Int} (h0:0≤i) (h1:i≤9999):nz [.int i]=some (.ok (.str (is i))):=by
 show (if i.natAbs.log2 < 1920 then _ else none)=_;rw [if_pos]
 · rfl
 · have e:i.natAbs < 2 ^ 1920:=y_ (show i.natAbs < 2 ^ 14 by omega) (Kx (by decide) (by decide));by_cases z:i.natAbs=0
   · rw [z]; decide
   · exact (Nat.log2_lt z).mpr e
def oI (pre:String) (h:Option Int):Option Str:=h.map fun x=>a_ pre ++ is x
def oB (x:String) (b:Bool):Option Str:=if b then some (a_ x) else none
def Tz (nm w:Str):Str:=nm ++ a_ "=" ++ w
def dR (R:Str):Bool:=seq R (a_ "near")
theorem iy {x y:Str} (h:x.length + y.length≤100000):addD (.str x) (.str y)=some (.ok (.str (x ++ y))):=by
 show (if x.length + y.length≤100000 then _ else none)=_;rw [if_pos h]
theorem Av {x y:Str} (h:x.length + y.length≤100000):aH (.str x) (.str y)=some (.ok (.str (x ++ y))):=iy h
theorem Dc {c:FnB} {e:FnE} {g:dD} {ρ:Ev} {ds:List Dv} {o:Option Str} (hc:c ρ=some (.ok o.isSome)) (he:∀ y,o=some y→e ρ=some (.ok (.str y))) (hl:ds.length < 100000):bK (oIf c (gC e) tX) g ρ ds=g ρ (ds ++ o.toList.map Dv.str):=by
 unfold bK oIf;rw [hc];cases o with
 | none=>show g ρ ds=_; simp
 | some y =>
  show (match gC e ρ ds with | some (.nx ρ' ds')=>g ρ' ds' | o=>o)=_
  unfold gC;rw [if_pos hl,he y rfl];rfl
theorem dP (o:Option Str):o.toList.length≤1:=by cases o <;> simp
theorem aL (a b:Str):(a ++ b).cps.toList=a.cps.toList ++ b.cps.toList:=KY
theorem ku (sep x y:Str) (l:List Str):Gy sep (x :: y :: l)=x ++ sep ++ Gy sep (y :: l):=by
 show LD sep (x :: y :: l)=x ++ sep ++ LD sep (y :: l);rw [Kk,Kk];rfl
theorem mv (sep:Str) (hs:sep.length≤10):∀ (l:List Str) (x:Str),(∀ p∈l,p.length≤200)→(l.foldl (fun t y=>t ++ sep ++ y) x).length≤x.length + l.length * 210
 | [],x,_=>by simp
 | y :: l,x,h=>by
  have ih:=mv sep hs l (x ++ sep ++ y) fun p hp=>h p (f_ _ hp);have h0:=h y g_;rw [cx,cx] at ih;show (l.foldl _ (x ++ sep ++ y)).length≤_;rw [EV];omega
theorem kv (sep:Str):∀ (l:List Str) (x:Str),(Gy sep (x :: l)).cps.toList=J sep.cps.toList x.cps.toList (l.map fun s=>s.cps.toList)
 | [],x=>rfl
 | y :: l,x=>by
  rw [ku,aL,aL,kv sep l y];show _=x.cps.toList ++ (sep.cps.toList ++ J sep.cps.toList y.cps.toList (l.map fun s=>s.cps.toList));simp
theorem wJ {α:Type} (l:List α) (n:Nat) (h:n≤l.length):fv l none (some (n:Int))=l.take n:=by
 unfold fv HT.sIx;simp only [Ho];rw [if_neg (by omega)];congr 1;omega
theorem im {α:Type} (l:List α) (n:Nat) (h:n≤l.length):fv l (some (n:Int)) none=l.drop n:=by
 unfold fv HT.sIx;simp only;rw [if_neg (by omega),show min (n:Int).toNat l.length=n by omega,Ka (by simp)]
theorem Dd {sep:Str} {ts:List Str} (hs:sep.length≤10) (h:∀ t∈ts,t.length≤20000) (hl:ts.length≤20):cH sep [.lst (ts.map Dv.str)]=some (.ok (.str (Gy sep ts))):=by
 show (match texts (ts.map Dv.str) with | some ts=>if Le sep ts=b_ then some (Rs.ok (Dv.str (Gy sep ts))) else none | none=>none)=_
 rw [il];dsimp only;have e:=jw sep 20000 ts 0 h;have e2:ts.length * (20000 + sep.length)≤20 * (20000 + 10):=Kz hl (by omega);have e4:Le sep ts=b_:=by
  unfold Le KU;rw [Ll];have e3:¬ (ts.foldl (fun a t=>a + t.length + sep.length) 0 > sizeLine):=by
   have:sizeLine=16777216:=by decide
   omega
  simp only [e3];rfl
 rw [if_pos e4]
theorem uq {a b:List Dv} (h:a.length + b.length≤100000):aH (.lst a) (.lst b)=some (.ok (.lst (a ++ b))):=by
 show (if a.length + b.length≤100000 then _ else none)=_;rw [if_pos h]
theorem qi {i:Nat} {sep:Str} {ρ:Ev} {ts:List Str} {f:FnE} (hf:f ρ=some (.ok (.lst (ts.map Dv.str)))) (hs:sep.length≤10) (h:∀ t∈ts,t.length≤20000) (hl:ts.length≤20):fM cH (fC (.str sep)) (aa f ag) ρ=some (.ok (.str (Gy sep ts))):=by
 have z:aa f ag ρ=some (.ok [.lst (ts.map Dv.str)]):=ae hf ai;unfold fM;show bnd (aa f ag ρ) (fun xs=>cH sep xs)=_;rw [z];exact Dd hs h hl
mutual
def deq:Dv→Dv→Bool
 | .non,.non=>b_
 | .bl a,.bl b=>a == b
 | .int a,.int b=>a == b
 | .str a,.str b=>seq a b
 | .tup a,.tup b=>deqs a b
 | .lst a,.lst b=>deqs a b
 | _,_=>c_
def deqs:List Dv→List Dv→Bool
 | [],[]=>b_
 | a :: l,b :: m=>deq a b && deqs l m
 | _,_=>c_
end
theorem iz {x y:Str} (h:seq x y=b_):x=y:=by
 unfold seq at h;obtain ⟨⟨a⟩⟩:=x; obtain ⟨⟨b⟩⟩:=y;simp at h;rw [h]
mutual
theorem Aw:∀ {a b:Dv},deq a b=b_→a=b
 | .non,.non,_=>rfl
 | .bl a,.bl b,h=>by unfold deq at h; rw [IX h]
 | .int a,.int b,h=>by unfold deq at h; rw [IX h]
 | .str a,.str b,h=>by unfold deq at h; rw [iz h]
 | .tup a,.tup b,h=>by unfold deq at h; rw [deqs_eq h]
 | .lst a,.lst b,h=>by unfold deq at h; rw [deqs_eq h]
theorem deqs_eq:∀ {a b:List Dv},deqs a b=b_→a=b
 | [],[],_=>rfl
 | a :: l,b :: m,h=>by
  unfold deqs at h;rw [i_] at h;rw [Aw h.1,deqs_eq h.2]
end
end G
namespace G
namespace PT
open PySem PySem.Spec PyProof.Rows L2 FD PySem.Builtin.Str
theorem qj (m:Nat):(is (m:Int)).cps.toList=(J3 10 m).map Char.toNat:=PySem.W.KIN.signs_num m
theorem is_facts {i:Int} (h0:0≤i) (h1:i≤9999):(1≤(is i).length∧(is i).length≤4)∧allIn (is i) dgs=b_∧HV (is i)=some i:=by
 obtain ⟨m,rfl⟩:=Int.eq_ofNat_of_zero_le h0;have hl:(is (m:Int)).length=(J3 10 m).length:=by
  have:=congrArg HQ (qj m);rw [s_,ES] at this;exact this
 have h4:(J3 10 m).length≤4:=(Nat.length_toDigits_le_iff (by omega) (by omega)).mpr (by show m < 10 ^ 4; omega);have h5:0 < (J3 10 m).length:=Nat.length_toDigits_pos;refine ⟨⟨by omega,by omega⟩,?_,PySem.W.KIN.num_reads h0 (by omega)⟩;unfold allIn;rw [r_];intro c hc;rw [qj] at hc;obtain ⟨ch,hch,rfl⟩:=Fq.mp hc;have hd:=Nat.isDigit_of_mem_toDigits (by omega) (by omega) hch;rw [decide_eq_true_eq,gH];unfold Char.isDigit at hd;simp only [i_,decide_eq_true_eq] at hd;obtain ⟨q1,q2⟩:=hd;have r1:48≤ch.toNat:=q1;have r2:ch.toNat≤57:=q2;simp only [q_,Fi,or_false];omega
theorem ly {i:Int} (h0:0≤i) (h1:i≤9999):mtB (is i)=b_∧mtV (is i)=i:=by
 obtain ⟨⟨a,b⟩,c,d⟩:=is_facts h0 h1;refine ⟨?_,by unfold mtV; rw [d]; rfl⟩;rw [(qc (by omega)).2];simp only [i_,decide_eq_true_eq];exact ⟨⟨by omega,by omega⟩,c⟩
theorem Ax:∀ {cs:List Nat},HN cs→HM cs < 10 ^ cs.length:=by
 intro cs;have gen:∀ (cs:List Nat) (a:Nat),(∀ c∈cs,48≤c∧c≤57)→cs.foldl (fun a c=>a * 10 + (c - 48)) a < (a + 1) * 10 ^ cs.length:=by
  intro cs
  induction cs with
  | nil=>intro a _; simp
  | cons c cs ih =>
   intro a h;have hc:=h c g_;have:=ih (a * 10 + (c - 48)) fun d hd=>h d (f_ _ hd);rw [Ga,EV,Nat.pow_succ];refine y_ this ?_;rw [show (a + 1) * (10 ^ cs.length * 10)=((a + 1) * 10) * 10 ^ cs.length by rw [Nat.mul_assoc,LM 10 (10 ^ cs.length),← Nat.mul_assoc]];exact Ky _ (by omega)
 intro h;have:=gen cs 0 h;rw [Ht,Nat.one_mul] at this;exact this
theorem Ay {x:Str} (h:mtB x=b_) (hx:x.length≤90000):0≤mtV x∧mtV x≤9999:=by
 rw [(qc hx).2] at h;simp only [i_,decide_eq_true_eq] at h;obtain ⟨⟨h1,h2⟩,h3⟩:=h;have hd:HN x.cps.toList:=by
  intro c hc;have:=r_.mp h3 c hc;rw [decide_eq_true_eq] at this;have:c∈dgs.cps.toList:=this;rw [gH] at this;simp only [q_,Fi,or_false] at this;omega
 have hl:x.length=x.cps.toList.length:=by rw [ES]; rfl
 have hn:x.cps.toList≠[]:=fun z=>by
  rw [z] at hl;simp at hl;omega
 have e:=Kr hd hn (by omega);have lt:=Ax hd;have lt2:(10:Nat) ^ x.cps.toList.length≤10 ^ 4:=Kx (by omega) (by omega);unfold mtV;rw [e];show 0≤((HM x.cps.toList:Nat):Int)∧_;constructor
 · omega
 · show ((HM x.cps.toList:Nat):Int)≤9999;omega
end PT
end G
namespace G
open PySem PySem.Spec PyProof.Rows L2 FD
def P1 (n:Note):Str:=(if n.ex then a_ "only " else a_ "for ") ++ n.house
def P2 (n:Note):Str:=a_ "under " ++ n.path
def P8 (n:Note):Str:=a_ "made " ++ is n.md
def P9 (n:Note):Str:=a_ "used " ++ is n.us
def PLn (n:Note):List Str:=P1 n :: P2 n :: ((oI "until " n.ends).toList ++ ((oB "safe" n.S).toList ++ ((oB "near" (dR n.R)).toList ++ [P8 n,P9 n])))
def Ln (n:Note):Str:=Gy (a_ "; ") (Tz n.nm n.w :: PLn n)
def nl:Str:=a_ "\n"
structure Sg (p:Str):Prop where
 a:59 ∉ p.cps.toList
 b:10 ∉ p.cps.toList
 l:p.length≤200
theorem qk {w x:Str} (a1:59 ∉ w.cps.toList) (a2:10 ∉ w.cps.toList) (h1:59 ∉ x.cps.toList) (h2:10 ∉ x.cps.toList) (hl:w.length + x.length≤200):Sg (w ++ x):=by
 refine ⟨?_,?_,by rw [cx]; exact hl⟩
 · rw [aL,t_]; exact fun h=>h.elim a1 h1
 · rw [aL,t_]; exact fun h=>h.elim a2 h2
section
variable {n:Note}
theorem De (g:Good n) {c:Nat} (h:c≠46∧c ∉ PT.lsg.cps.toList):c ∉ n.house.cps.toList:=fun hc=>(((PT.nm_of g.hl).2 g.house).2 c hc).elim h.1 h.2
theorem DW (g:Good n) {c:Nat} (h:c ∉ PT.psg.cps.toList):c ∉ n.path.cps.toList:=fun hc=>h (PT.allIn_mem ((PT.pt_of g.pl).2 g.path).2 hc)
theorem Az (g:Good n) {c:Nat} (h:c ∉ PT.nsg.cps.toList):c ∉ n.nm.cps.toList:=fun hc=>h (PT.allIn_mem (kq g.nm).2 hc)
theorem Df (g:Good n) {c:Nat} (h:PT.wC c=c_):c ∉ n.w.cps.toList:=fun hc=>by
 have:=r_.mp (kr g.w).2 c hc;rw [h] at this;cases this
theorem DX {i:Int} (h0:0≤i) (h1:i≤9999) {c:Nat} (h:c ∉ PT.dgs.cps.toList):c ∉ (is i).cps.toList:=fun hc=>h (PT.allIn_mem (PT.is_facts h0 h1).2.1 hc)
theorem AA (g:Good n):Sg (P1 n):=by
 have:=((PT.nm_of g.hl).2 g.house).1;unfold P1;refine qk (by cases n.ex <;> decide) (by cases n.ex <;> decide) (De g (by decide)) (De g (by decide)) ?_;have:(if n.ex then a_ "only " else a_ "for ").length≤5:=by cases n.ex <;> decide
 omega
theorem AB (g:Good n):Sg (P2 n):=by
 have:=((PT.pt_of g.pl).2 g.path).1;exact qk (by decide) (by decide) (DW g (by decide)) (DW g (by decide)) (by have:(a_ "under ").length=6:=(by decide); omega)
theorem wK {i:Int} (h0:0≤i) (h1:i≤9999) {w:Str} (a1:59 ∉ w.cps.toList) (a2:10 ∉ w.cps.toList) (hw:w.length≤10):Sg (w ++ is i):=by
 have:=(PT.is_facts h0 h1).1;exact qk a1 a2 (DX h0 h1 (by decide)) (DX h0 h1 (by decide)) (by omega)
theorem AC (g:Good n) {y:Str} (h:oI "until " n.ends=some y):Sg y:=by
 unfold oI at h;cases he:n.ends with
 | none=>rw [he] at h; cases h
 | some i =>
  rw [he] at h;cases h;have:=g.ends i he;exact wK this.1 this.2 (by decide) (by decide) (by decide)
theorem AD (g:Good n):Sg (P8 n):=wK g.mk0 (by have:=g.mu; have:=g.us; omega) (by decide) (by decide) (by decide)
theorem AE (g:Good n):Sg (P9 n):=wK (by have:=g.mk0; have:=g.mu; omega) g.us (by decide) (by decide) (by decide)
theorem AF {x:String} {b:Bool} {y:Str} (hx:x="safe"∨x="near") (h:oB x b=some y):Sg y:=by
 unfold oB at h;split at h
 · cases h;rcases hx with rfl | rfl
   · exact ⟨by decide,by decide,by decide⟩
   · exact ⟨by decide,by decide,by decide⟩
 · cases h
theorem mw (g:Good n):∀ y∈PLn n,Sg y:=by
 intro y hy;simp only [PLn,t_,q_,LJ,Fi,or_false] at hy;rcases hy with rfl | rfl | e | e | e | rfl | rfl
 · exact AA g
 · exact AB g
 · exact AC g e
 · exact AF (.inl rfl) e
 · exact AF (.inr rfl) e
 · exact AD g
 · exact AE g
theorem dJ (a b:Str):(Tz a b).cps.toList=a.cps.toList ++ 61 :: b.cps.toList:=by
 unfold Tz;rw [aL,aL,show (a_ "=").cps.toList=[61] by kernel_rfl];simp
theorem sK (g:Good n):Sg (Tz n.nm n.w):=by
 have l1:=(kq g.nm).1;have l2:=(kr g.w).1;refine ⟨?_,?_,?_⟩
 · rw [dJ,t_,q_];exact fun h=>h.elim (Az g (by decide)) fun h=>h.elim (by decide) (Df g (by decide))
 · rw [dJ,t_,q_];exact fun h=>h.elim (Az g (by decide)) fun h=>h.elim (by decide) (Df g (by decide))
 · unfold Tz;rw [cx,cx];have:(a_ "=").length=1:=by decide
   omega
theorem lz:(PLn n).length≤7:=by
 have f3:=dP (oI "until " n.ends);have f5:=dP (oB "safe" n.S);have f6:=dP (oB "near" (dR n.R));simp [PLn]; omega
theorem mx (g:Good n):(Ln n).length≤2000:=by
 unfold Ln;rw [fR];have h1:=mv (a_ "; ") (by decide) (PLn n) (Tz n.nm n.w) fun p hp=>(mw g p hp).l;have h2:(PLn n).length≤7:=lz;have h3:=(sK g).l;omega
theorem wL {c:Nat} {S:List Nat}:∀ (l:List (List Nat)) (p:List Nat),c∈J S p l→c∈p∨c∈S∨∃ q∈l,c∈q
 | [],p,h=>.inl h
 | q :: r,p,h=>by
  have h':c∈p ++ (S ++ J S q r):=h;simp only [t_] at h';rcases h' with h | h | h
  · exact .inl h
  · exact .inr (.inl h)
  · rcases wL r q h with h | h | ⟨z,hz,h⟩
    · exact .inr (.inr ⟨q,g_,h⟩)
    · exact .inr (.inl h)
    · exact .inr (.inr ⟨z,f_ _ hz,h⟩)
theorem Dg (g:Good n):10 ∉ (Ln n).cps.toList:=by
 intro h;unfold Ln at h;rw [kv] at h;rcases wL _ _ h with h | h | ⟨q,hq,h⟩
 · exact (sK g).b h
 · have e:(a_ "; ").cps.toList=[59,32]:=by kernel_rfl
   rw [e] at h;simp at h
 · obtain ⟨s,hs,rfl⟩:=Fq.mp hq;exact (mw g s hs).b h
theorem gI (g:Good n):u_ (Ln n) (a_ "; ")=Tz n.nm n.w :: PLn n:=by
 refine ig (c:=59) (rest:=[32]) (by kernel_rfl) (by kernel_rfl) (fun q hq=>?_) (kv _ _ _);rcases q_.mp hq with rfl | hq
 · exact (sK g).a
 · exact (mw g q hq).a
theorem Br {e:FnE} {g:dD} {ρ:Ev} {ds:List Dv} {y:Str} (he:e ρ=some (.ok (.str y))) (hl:ds.length < 100000):bK (gC e) g ρ ds=g ρ (ds ++ [.str y]):=by
 unfold bK gC;rw [if_pos hl,he];rfl
theorem kw (g:Good n):bW [enc n]=some (.ok (.str (Ln n ++ nl))):=by
 have k0:=(sK g).l;have k1:=(AA g).l;have k2:=(AB g).l;have k8:=(AD g).l;have k9:=(AE g).l;have h0:=g.mk0; have h1:=g.mu; have h2:=g.us
 let E:Ev:=[some (enc n),none]
 have lp:∀ {a b:Str} {c:Nat},(a ++ b).length≤c→a.length + b.length≤c:=fun h=>by rw [cx] at h; exact h
 have a0:(aa (f2 addD (f2 addD (f2 ixD (ac 0) (fC (.int 0))) (fC (.str "="))) (f2 ixD (ac 0) (fC (.int 1)))) ag) E=some (.ok [.str (Tz n.nm n.w)]):=by
  have q:=lp (a:=n.nm ++ a_ "=") (b:=n.w) k0;have q2:=lp (a:=n.nm) (b:=a_ "=") (c:=200) (by omega);refine ae ?_ ai;refine (aq ((aq (x:=.str n.nm) (y:=.str "=") rfl rfl).trans (iy (by omega))) (y:=.str n.w) rfl).trans ?_;exact iy (by omega)
 have e1:f2 addD (fIf (fB (f2 ixD (ac 0) (fC (.int 3)))) (fC (.str "only ")) (fC (.str "for "))) (f2 ixD (ac 0) (fC (.int 2))) E=some (.ok (.str (P1 n))):=by
  have z:fIf (fB (f2 ixD (ac 0) (fC (.int 3)))) (fC (.str "only ")) (fC (.str "for ")) E=some (.ok (.str (if n.ex then a_ "only " else a_ "for "))):=by
   have c:fB (f2 ixD (ac 0) (fC (.int 3))) E=some (.ok n.ex):=rfl;unfold fIf; rw [c]; cases n.ex <;> rfl
  exact (aq z (y:=.str n.house) rfl).trans (iy (by have:=lp (a:=if n.ex then a_ "only " else a_ "for ") (b:=n.house) k1; omega))
 have e2:f2 addD (fC (.str "under ")) (f2 ixD (ac 0) (fC (.int 4))) E=some (.ok (.str (P2 n))) :=
  (aq (x:=.str "under ") (y:=.str n.path) rfl rfl).trans (iy (by have:=lp (a:=a_ "under ") (b:=n.path) k2; omega))
 have c5:fB (f2 mR (f2 ixD (ac 0) (fC (.int 5))) (fC .non)) E=some (.ok (oI "until " n.ends).isSome):=by
  have:fB (f2 mR (f2 ixD (ac 0) (fC (.int 5))) (fC .non)) E=fB (f2 mR (fC (eO n.ends)) (fC .non)) E:=rfl;rw [this];cases n.ends <;> rfl
 have e5:∀ y,oI "until " n.ends=some y→f2 addD (fC (.str "until ")) (fB1 nz (aa (f2 ixD (ac 0) (fC (.int 5))) ag)) E=some (.ok (.str y)):=by
  intro y hy;have ky:=(AC g hy).l;cases he:n.ends with
  | none=>rw [he] at hy; cases hy
  | some i =>
   rw [he] at hy;cases hy;have z:=g.ends i he;have q:f2 ixD (ac 0) (fC (.int 5)) E=some (.ok (.int i)):=by
    show some (Rs.ok (eO n.ends))=_;rw [he]; rfl
   exact (aq (x:=.str "until ") rfl ((aW (ae q ai)).trans (sJ z.1 (by omega)))).trans (iy (by have:=lp (a:=a_ "until ") (b:=is i) ky; omega))
 have c6:fB (f2 ixD (ac 0) (fC (.int 6))) E=some (.ok (oB "safe" n.S).isSome):=by
  have:fB (f2 ixD (ac 0) (fC (.int 6))) E=some (.ok n.S):=rfl;rw [this];cases n.S <;> rfl
 have e6:∀ y,oB "safe" n.S=some y→fC (.str "safe") E=some (.ok (.str y)):=by
  intro y hy;unfold oB at hy;split at hy
  · cases hy; rfl
  · cases hy
 have c7:fB (f2 eqX (f2 ixD (ac 0) (fC (.int 7))) (fC (.str "near"))) E=some (.ok (oB "near" (dR n.R)).isSome):=by
  have:fB (f2 eqX (f2 ixD (ac 0) (fC (.int 7))) (fC (.str "near"))) E=some (.ok (dR n.R)):=rfl;rw [this];cases dR n.R <;> rfl
 have e7:∀ y,oB "near" (dR n.R)=some y→fC (.str "near") E=some (.ok (.str y)):=by
  intro y hy;unfold oB at hy;split at hy
  · cases hy; rfl
  · cases hy
 have e8:f2 addD (fC (.str "made ")) (fB1 nz (aa (f2 ixD (ac 0) (fC (.int 8))) ag)) E=some (.ok (.str (P8 n))) :=
  (aq (x:=.str "made ") rfl ((aW (ae (x:=.int n.md) rfl ai)).trans (sJ h0 (by omega)))).trans (iy (by have:=lp (a:=a_ "made ") (b:=is n.md) k8; omega))
 have e9:f2 addD (fC (.str "used ")) (fB1 nz (aa (f2 ixD (ac 0) (fC (.int 9))) ag)) E=some (.ok (.str (P9 n))) :=
  (aq (x:=.str "used ") rfl ((aW (ae (x:=.int n.us) rfl ai)).trans (sJ (by omega) (by omega)))).trans (iy (by have:=lp (a:=a_ "used ") (b:=is n.us) k9; omega))
 have hL:∀ t∈Tz n.nm n.w :: PLn n,t.length≤20000:=by
  intro t ht;rcases q_.mp ht with rfl | ht
  · omega
  · have:=(mw g t ht).l; omega
 have hlen:(Tz n.nm n.w :: PLn n).length≤20:=by have:(PLn n).length≤7:=lz; simp; omega
 have hr:ny 1 (f2 addD (fM (cH) (fC (.str "; ")) (aa (ac 1) ag)) (fC (.str "\n"))) E ((Tz n.nm n.w :: PLn n).map Dv.str)=some (.rt (.str (Ln n ++ nl))):=by
  have j:fM (cH) (fC (.str "; ")) (aa (ac 1) ag) (E.set 1 (some (.lst ((Tz n.nm n.w :: PLn n).map Dv.str))))=some (.ok (.str (Ln n))):=qi (i:=0) (sep:=a_ "; ") rfl (by decide) hL hlen;unfold ny;rw [(aq j (y:=.str "\n") rfl).trans (iy (by have:=mx g; have:(a_ "\n").length=1:=(by decide); omega))];rfl
 refine bi ?_;show cV E=_;unfold cV qL;rw [a0];show (if [Dv.str (Tz n.nm n.w)].length≤100000 then _ else none)=_;have eE:E.set 1 none=E:=rfl;rw [eE];rw [Br e1 (by simp),Br e2 (by simp),Dc c5 e5 (by simp),Dc c6 e6 (by have:=dP (oI "until " n.ends); simp; omega),Dc c7 e7 (by have:=dP (oI "until " n.ends); have:=dP (oB "safe" n.S); simp; omega),Br e8 (by have:=dP (oI "until " n.ends); have:=dP (oB "safe" n.S); have:=dP (oB "near" (dR n.R)); simp; omega),Br e9 (by have:=dP (oI "until " n.ends); have:=dP (oB "safe" n.S); have:=dP (oB "near" (dR n.R)); simp; omega)];have eL:[Dv.str (Tz n.nm n.w)] ++ [.str (P1 n)] ++ [.str (P2 n)] ++ (oI "until " n.ends).toList.map Dv.str ++ (oB "safe" n.S).toList.map Dv.str ++ (oB "near" (dR n.R)).toList.map Dv.str ++ [.str (P8 n)] ++ [.str (P9 n)]=(Tz n.nm n.w :: PLn n).map Dv.str:=by
  simp [PLn]
 rw [eL,hr];rfl
end
def TXT:List Note→Str
 | []=>a_ ""
 | n :: js=>Ln n ++ nl ++ TXT js
theorem my:∀ js:List Note,Gy (a_ "") (js.map fun n=>Ln n ++ nl)=TXT js
 | []=>rfl
 | [n]=>by
  show Ln n ++ nl=Ln n ++ nl ++ a_ "";rw [Au]
 | n :: m :: js=>by
  have ih:=my (m :: js);show Gy (a_ "") ((Ln n ++ nl) :: (Ln m ++ nl) :: js.map fun n=>Ln n ++ nl)=_;rw [ku];show Ln n ++ nl ++ a_ "" ++ Gy (a_ "") ((m :: js).map fun n=>Ln n ++ nl)=_;rw [ih,Au];rfl
theorem ql {js:List Note} (hg:∀ n∈js,Good n) (hl:js.length≤20):fM (cH) (fC (.str "")) (aa (cz [] (cp (ac 0)) none (aj bW 1 (aa (ac 0) ag))) ag) [some (ej js)]=some (.ok (.str (TXT js))):=by
 have e1:cz [] (cp (ac 0)) none (aj bW 1 (aa (ac 0) ag)) [some (ej js)]=some (.ok (.lst ((js.map fun n=>Ln n ++ nl).map Dv.str))):=by
  rw [GQ];exact cF enc (fun n=>Dv.str (Ln n ++ nl)) (qe rfl) (by omega) fun n hn=>bT bW rfl (kw (hg n hn))
 rw [← my];refine qi (i:=0) (sep:=a_ "") e1 (by decide) (fun t ht=>?_) (by simp; omega);obtain ⟨n,hn,rfl⟩:=Fq.mp ht;have:=mx (hg n hn);have:nl.length=1:=by decide
 rw [cx]; omega
end G
namespace G
namespace PT
open PySem PySem.Spec PyProof.Rows L2 FD PySem.Builtin.Str
theorem iz {x y:Str} (h:seq x y=b_):x=y:=cZ (by unfold seq at h; simpa using h)
theorem qm (x:Str):seq x x=b_:=by unfold seq; simp
theorem iA:(a_ " ")=⟨#[32]⟩:=by kernel_rfl
def pw (s:Str):Str:=(Fa s (a_ " ")).1
def pr (s:Str):Str:=(Fa s (a_ " ")).2.2
theorem bI {c:FnB} {e:FnE} {rest:FnS} {ρ:Ev} {b:Bool} {d:Dv} (hc:c ρ=some (.ok b)) (he:b=b_→e ρ=some (.ok d)):aG (bZ c (bb e) (fun ρ=>some (.nx ρ))) rest ρ=if b=b_ then some (.rt d) else rest ρ:=by
 unfold aG bZ;rw [hc];cases b
 · rfl
 · show sq (bb e ρ) rest=_;rw [aV (he rfl)];rfl
theorem ez {i:Int} {f:FnE} {ρ:Ev} {d:Dv} (h:f ρ=some (.ok d)):df (aa (fC (.int i)) (aa f ag)) ρ=some (.ok (.tup [.int i,d])):=gY (ae (x:=.int i) rfl (ae h ai)) (by show 2≤100000; decide)
theorem gv {f:FnE} {ρ:Ev} {d:Dv} (h:f ρ=some (.ok d)):bD (aa f ag) ρ=some (.ok (.lst [d])):=dX (ae h ai) (by show 1≤100000; decide)
def eP (kd:Nat×Dv):Dv:=.tup [.int kd.1,kd.2]
def wmo (w:Str) (i:Int):List (Nat×Dv) :=
 if seq w (a_ "until")=b_ then [(5,.int i)]
 else if seq w (a_ "made")=b_ then [(8,.int i)]
 else if seq w (a_ "used")=b_ then [(9,.int i)]
 else []
def wrl (p:Str):List (Nat×Dv) :=
 if seq p (a_ "safe")=b_ then [(6,.bl b_)]
 else if seq p (a_ "near")=b_ then [(7,.str p)]
 else if (seq (pw p) (a_ "only") || seq (pw p) (a_ "for"))=b_ then [(2,.str (pr p)),(3,.bl (seq (pw p) (a_ "only")))]
 else if seq (pw p) (a_ "under")=b_ then [(4,.str (pr p))]
 else if mtB (pr p)=b_ then wmo (pw p) (mtV (pr p))
 else []
theorem AG (w:Str) (i:Int):bE [.str w,.int i]=some (.ok (.lst ((wmo w i).map eP))):=by
 refine bi ?_;show bj [some (.str w),some (.int i)]=_;unfold bj;have q {z:String}:fB (f2 eqX (ac 0) (fC (.str (a_ z)))) [some (.str w),some (.int i)]=some (.ok (seq w (a_ z))):=aU ((aq (x:=.str w) (y:=.str (a_ z)) rfl rfl).trans rfl);rw [bI q (fun _=>gv (ez (d:=.int i) rfl)),bI q (fun _=>gv (ez (d:=.int i) rfl)),bI q (fun _=>gv (ez (d:=.int i) rfl))];unfold wmo;split
 · rfl
 split
 · rfl
 split
 · rfl
 · rfl
theorem ur (s:Str):(pr s).length≤s.length:=by
 have:=(IS s (a_ " ")).2.2;unfold pr;omega
theorem AH {p:Str} (hp:p.length≤90000):ba [.str p]=some (.ok (.lst ((wrl p).map eP))):=by
 have hr:=ur p;refine bi ?_;show aZ [some (.str p),none,none,none]=_;unfold aZ;have c {w:String}:fB (f2 eqX (ac 0) (fC (.str (a_ w)))) [some (.str p),none,none,none]=some (.ok (seq p (a_ w))):=aU ((aq (x:=.str p) (y:=.str (a_ w)) rfl rfl).trans rfl);rw [bI c (fun _=>gv (ez (d:=.bl b_) rfl)),bI c (fun _=>gv (ez (d:=.str p) rfl))];unfold wrl;split
 · rfl
 split
 · rfl
 obtain ⟨m,hm⟩:∃ m,m=Fa p (a_ " "):=⟨_,rfl⟩;have v1:fM (kW) (ac 0) (aa (fC (.str " ")) ag) [some (.str p),none,none,none]=some (.ok (.tup [.str (pw p),.str m.2.1,.str (pr p)])):=(fM_of (x:=p) rfl (ae (x:=.str " ") rfl ai)).trans (by
  rw [hm];show (if (a_ " ").length≠0∧p.length≤100000 then some (Rs.ok (Dv.tup [.str (Fa p (a_ " ")).1,.str (Fa p (a_ " ")).2.1,.str (Fa p (a_ " ")).2.2])) else none)=_;rw [if_pos ⟨by decide,by omega⟩];rfl)
 obtain ⟨P,hP⟩:∃ P,P=Dv.tup [.str (pw p),.str m.2.1,.str (pr p)]:=⟨_,rfl⟩;rw [← hP] at v1;rw [ao (aB (ρ':=[some (.str p),some P,none,none]) v1 rfl),ao (aB (ρ':=[some (.str p),some P,some (.str (pw p)),none]) (d:=.str (pw p)) ((aq (x:=P) (y:=.int 0) rfl rfl).trans (by rw [hP]; rfl)) rfl),ao (aB (ρ':=[some (.str p),some P,some (.str (pw p)),some (.str (pr p))]) (d:=.str (pr p)) ((aq (x:=P) (y:=.int 2) rfl rfl).trans (by rw [hP]; rfl)) rfl)];have q0 {w:String}:f2 eqX (ac 2) (fC (.str (a_ w))) [some (.str p),some P,some (.str (pw p)),some (.str (pr p))]=some (.ok (.bl (seq (pw p) (a_ w)))):=(aq (x:=.str (pw p)) (y:=.str (a_ w)) rfl rfl).trans rfl;have q {w:String}:fB (f2 eqX (ac 2) (fC (.str (a_ w)))) [some (.str p),some P,some (.str (pw p)),some (.str (pr p))]=some (.ok (seq (pw p) (a_ w))):=aU q0;have i0:mtB (pr p)=b_→fB1 qM (aa (ac 3) ag) [some (.str p),some P,some (.str (pw p)),some (.str (pr p))]=some (.ok (.int (mtV (pr p)))):=fun h=>(aW (ae (x:=.str (pr p)) rfl ai)).trans (uj h (by omega));rw [bI (gg q q) (fun _=>dX (ae (ez (d:=.str (pr p)) rfl) (ae (ez q0) ai)) (by show 2≤100000; decide)),bI q (fun _=>gv (ez (d:=.str (pr p)) rfl)),
  bI (aU (bT aI rfl (qc (x:=pr p) (by omega)).1)) (fun h=>oO bE rfl (i0 h) (AG (pw p) (mtV (pr p))))]
 split
 · rfl
 split
 · rfl
 split
 · rfl
 · rfl
structure Raw where
 nm:Str
 w:Str
 house:Option Str
 ex:Option Bool
 path:Option Str
 ends:Option Int
 S:Bool
 R:Str
 md:Option Int
 us:Option Int
def eS:Option Str→Dv
 | none=>.non
 | some x=>.str x
def eB:Option Bool→Dv
 | none=>.non
 | some x=>.bl x
def rw' (r:Raw):List Dv:=[.str r.nm,.str r.w,eS r.house,eB r.ex,eS r.path,eO r.ends,.bl r.S,.str r.R,eO r.md,eO r.us]
def pmo (r:Raw) (w:Str) (i:Int):Raw :=
 if seq w (a_ "until")=b_ then { r with ends:=some i }
 else if seq w (a_ "made")=b_ then { r with md:=some i }
 else if seq w (a_ "used")=b_ then { r with us:=some i }
 else r
def pu (r:Raw) (p:Str):Raw :=
 if seq p (a_ "safe")=b_ then { r with S:=b_ }
 else if seq p (a_ "near")=b_ then { r with R:=p }
 else if (seq (pw p) (a_ "only") || seq (pw p) (a_ "for"))=b_ then { r with house:=some (pr p),ex:=some (seq (pw p) (a_ "only")) }
 else if seq (pw p) (a_ "under")=b_ then { r with path:=some (pr p) }
 else if mtB (pr p)=b_ then pmo r (pw p) (mtV (pr p))
 else r
def DY (ds:List Dv) (l:List (Nat×Dv)):List Dv:=l.foldl (fun ds kd=>ds.set kd.1 kd.2) ds
theorem Dh (r:Raw) (p:Str):DY (rw' r) (wrl p)=rw' (pu r p)∧(∀ kd∈wrl p,kd.1 < 10)∧imms ((wrl p).map eP)=b_:=by
 unfold wrl pu wmo pmo
 repeat' split
 all_goals exact ⟨rfl,by simp,rfl⟩
end PT
namespace PT
open PySem PySem.Spec PyProof.Rows L2 FD PySem.Builtin.Str
theorem Di:a_ "="=⟨#[61]⟩:=by kernel_rfl
def wA (p:Str):Str:=(Fa p (a_ "=")).1
def wM (p:Str):Str:=(Fa p (a_ "=")).2.1
def wZ (p:Str):Str:=(Fa p (a_ "=")).2.2
theorem ED (p:Str):(wA p).length≤p.length∧(wZ p).length≤p.length:=by
 have:=IS p (a_ "=");unfold wA wZ;omega
theorem mz:∀ ps:List Str,imms (ps.map Dv.str)=b_
 | []=>rfl
 | p :: ps=>mz ps
theorem EG {α:Type} (p:α) (ps:List α):fv (p :: ps) (some 1) none=ps:=by
 unfold fv HT.sIx;simp
def ds2:Str:=a_ "; "
theorem nq (x:Str):(u_ x ds2).length≤x.length + 1:=by
 have h:=K9 ds2 (u_ x ds2);have h2:ds2.length=2:=by kernel_rfl
 rw [aT,h2] at h;omega
theorem gi {x:Str} (hx:x.length≤90000):bc x [.str ds2]=some (.ok (.lst ((u_ x ds2).map Dv.str))):=by
 have:=nq x;show (if ds2.length≠0∧x.length≤100000∧(u_ x ds2).length≤100000 then some (Rs.ok (Dv.lst ((u_ x ds2).map Dv.str))) else none)=_;rw [if_pos ⟨by decide,by omega,by omega⟩]
def r0 (a b:Str):Raw:=⟨a,b,none,none,none,none,c_,a_ "any",none,none⟩
def ER (x:Str) (L T3:Dv) (a b:Option Dv):Ev:=[some (.str x),some L,some T3,none,a,b]
theorem AI {x:Str} {L T3:Dv} {a:Option Dv}:∀ (l:List (Nat×Dv)) (ds:List Dv) (b:Option Dv),(∀ kd∈l,kd.1 < 10)→ds.length=10→dc 5 [5] bz (l.map eP) (ER x L T3 a b) ds=some (.nx (ER x L T3 a none) (DY ds l))
 | [],ds,b,_,_=>rfl
 | kd :: l,ds,b,h,hl=>by
  have hk:=h kd g_;have e:bz (ER x L T3 a (some (eP kd))) ds=some (.nx (ER x L T3 a (some (eP kd))) (ds.set kd.1 kd.2)):=by
   show (if 0≤(kd.1:Int)∧(kd.1:Int) < ds.length then some (Fo.nx (ER x L T3 a (some (eP kd))) (ds.set (kd.1:Int).toNat kd.2)) else none)=_;rw [if_pos ⟨by omega,by omega⟩];rfl
  show (match bz (ER x L T3 a (some (eP kd))) ds with
   | some (.nx ρ' xs')=>dc 5 [5] bz (l.map eP) ρ' xs'
   | o=>o)=_
  rw [e];exact AI l (ds.set kd.1 kd.2) (some (eP kd)) (fun q hq=>h q (f_ _ hq)) (by simp [hl])
theorem wN {x p:Str} {L T3:Dv} {r:Raw} (hp:p.length≤90000):aJ (ER x L T3 (some (.str p)) none) (rw' r)=some (.nx (ER x L T3 (some (.str p)) none) (rw' (pu r p))):=by
 obtain ⟨h1,h2,h3⟩:=Dh r p;have hs:cp (aj ba 1 (aa (ac 4) ag)) (ER x L T3 (some (.str p)) none)=some (.ok ((wrl p).map eP)):=by
  unfold cp;rw [bT ba (f:=ac 4) (ρ:=ER x L T3 (some (.str p)) none) (a:=.str p) rfl (AH hp)];rfl
 unfold aJ i5;rw [hs];show (if imms ((wrl p).map eP)=b_ then _ else none)=_;rw [if_pos h3,← h1];exact AI (wrl p) (rw' r) none h2 rfl
theorem qo {x:Str} {L T3:Dv}:∀ (ps:List Str) (r:Raw) (a:Option Dv),(∀ p∈ps,p.length≤90000)→dc 4 [4,5] aJ (ps.map Dv.str) (ER x L T3 a none) (rw' r)=some (.nx (ER x L T3 none none) (rw' (ps.foldl pu r)))
 | [],r,a,_=>rfl
 | p :: ps,r,a,h=>by
  have e:=wN (x:=x) (L:=L) (T3:=T3) (r:=r) (h p g_);show (match aJ (ER x L T3 (some (.str p)) none) (rw' r) with
   | some (.nx ρ' xs')=>dc 4 [4,5] aJ (ps.map Dv.str) ρ' xs'
   | o=>o)=_
  rw [e];exact qo ps (pu r p) (some (.str p)) fun q hq=>h q (f_ _ hq)
theorem qp {x p:Str} {ps:List Str} (hx:x.length≤90000) (e:u_ x ds2=p :: ps):bh [.str x]=some (.ok (.tup (rw' (ps.foldl pu (r0 (wA p) (wZ p)))))):=by
 have hps:∀ q∈p :: ps,q.length≤90000:=fun q hq=>by
  have:=db (x:=x) (y:=ds2) (p:=q) (by rw [e]; exact hq);omega
 have hp:=hps p g_;refine bi ?_;show cX [some (.str x),none,none,none,none,none]=_;obtain ⟨L,hL⟩:∃ L,L=Dv.lst ((p :: ps).map Dv.str):=⟨_,rfl⟩;obtain ⟨P,hP⟩:∃ P,P=Dv.tup [.str (wA p),.str (wM p),.str (wZ p)]:=⟨_,rfl⟩;have s1:fM bc (ac 0) (aa (fC (.str "; ")) ag) [some (.str x),none,none,none,none,none]=some (.ok L):=(fM_of (x:=x) rfl (ae (x:=.str ds2) rfl ai)).trans (by rw [gi hx,e,hL]);have s2:fM kW (f2 ixD (ac 1) (fC (.int 0))) (aa (fC (.str "=")) ag) [some (.str x),some L,none,none,none,none]=some (.ok P):=(fM_of (x:=p) ((aq (x:=L) (y:=.int 0) rfl rfl).trans (by rw [hL]; rfl)) (ae (x:=.str "=") rfl ai)).trans (by
  show (if (a_ "=").length≠0∧p.length≤100000 then some (Rs.ok (Dv.tup [.str (Fa p (a_ "=")).1,.str (Fa p (a_ "=")).2.1,.str (Fa p (a_ "=")).2.2])) else none)=_;rw [if_pos ⟨by decide,by omega⟩,hP];rfl)
 have i0:f2 ixD (ac 2) (fC (.int 0)) [some (.str x),some L,some P,none,none,none]=some (.ok (.str (wA p))):=(aq (x:=P) (y:=.int 0) rfl rfl).trans (by rw [hP]; rfl);have i2:f2 ixD (ac 2) (fC (.int 2)) [some (.str x),some L,some P,none,none,none]=some (.ok (.str (wZ p))):=(aq (x:=P) (y:=.int 2) rfl rfl).trans (by rw [hP]; rfl);unfold cX;rw [ao (aB (ρ':=[some (.str x),some L,none,none,none,none]) s1 rfl),ao (aB (ρ':=[some (.str x),some L,some P,none,none,none]) s2 rfl)];unfold qL;have a10:(aa (f2 ixD (ac 2) (fC (.int 0))) (aa (f2 ixD (ac 2) (fC (.int 2))) (aa (fC .non) (aa (fC .non) (aa (fC .non) (aa (fC .non) (aa (fC (.bl c_)) (aa (fC (.str "any")) (aa (fC .non) (aa (fC .non) ag)))))))))) [some (.str x),some L,some P,none,none,none]=some (.ok (rw' (r0 (wA p) (wZ p)))) :=
  ae i0 (ae i2 (ae (x:=.non) rfl (ae (x:=.non) rfl (ae (x:=.non) rfl (ae (x:=.non) rfl (ae (x:=.bl c_) rfl (ae (x:=.str "any") rfl (ae (x:=.non) rfl (ae (x:=.non) rfl ai)))))))))
 rw [a10];show (if (rw' (r0 (wA p) (wZ p))).length≤100000 then _ else none)=_;rw [if_pos (show (rw' (r0 (wA p) (wZ p))).length≤100000 by show 10≤100000; decide)];have src:cp (lM (ac 1) (am (fC (.int 1))) au) (ER x L P none none)=some (.ok (ps.map Dv.str)):=by
  rw [hL];show some (Rs.ok (fv ((p :: ps).map Dv.str) (some 1) none))=_;rw [Fe,EG]
 have lp:i5 4 [4,5] (cp (lM (ac 1) (am (fC (.int 1))) au)) aJ (ER x L P none none) (rw' (r0 (wA p) (wZ p)))=some (.nx (ER x L P none none) (rw' (ps.foldl pu (r0 (wA p) (wZ p))))):=by
  unfold i5;rw [src];show (if imms (ps.map Dv.str)=b_ then _ else none)=_;rw [if_pos (mz ps)];exact qo ps _ _ fun q hq=>hps q (f_ _ hq)
 have fin:(bK (i5 4 [4,5] (cp (lM (ac 1) (am (fC (.int 1))) au)) aJ) (ny 3 (fB1 dO (aa (ac 3) ag)))) (ER x L P none none) (rw' (r0 (wA p) (wZ p)))=some (.rt (.tup (rw' (ps.foldl pu (r0 (wA p) (wZ p)))))):=by
  unfold bK;rw [lp];rfl
 show (match (bK (i5 4 [4,5] (cp (lM (ac 1) (am (fC (.int 1))) au)) aJ) (ny 3 (fB1 dO (aa (ac 3) ag)))) (ER x L P none none) (rw' (r0 (wA p) (wZ p))) with | some (.nx ρ' ds')=>some (Fl.nx (ρ'.set 3 (some (.lst ds')))) | some (.rt d)=>some (.rt d) | none=>none)=_
 rw [fin]
theorem ut {w x:Str} (hw:32 ∉ w.cps.toList):pw (w ++ a_ " " ++ x)=w∧pr (w ++ a_ " " ++ x)=x:=by
 have e:(w ++ a_ " " ++ x).cps.toList=w.cps.toList ++ 32 :: x.cps.toList:=by
  rw [aL,aL,show (a_ " ").cps.toList=[32] by kernel_rfl];simp
 unfold pw pr;rw [iA];rcases iN (w ++ a_ " " ++ x) 32 with ⟨h,_⟩ | ⟨a,b,e2,ha,ep⟩
 · exact absurd (by rw [e]; simp) h
 · rw [← iA] at ep;obtain ⟨r1,r2⟩:=dI (e2.symm.trans e) ha hw;rw [← iA,ep];exact ⟨cZ (by rw [← r1]),cZ (by rw [← r2])⟩
theorem sL {p w:Str} (h:32∈p.cps.toList) (hw:32 ∉ w.cps.toList):seq p w=c_:=by
 cases q:seq p w
 · rfl
 · rw [iz q] at h;exact absurd h hw
theorem gj {r:Raw} {w x:Str} (hw:32 ∉ w.cps.toList):pu r (w ++ a_ " " ++ x)=if (seq w (a_ "only") || seq w (a_ "for"))=b_ then { r with house:=some x,ex:=some (seq w (a_ "only")) }
 else if seq w (a_ "under")=b_ then { r with path:=some x }
 else if mtB x=b_ then pmo r w (mtV x)
 else r:=by
 have hin:32∈(w ++ a_ " " ++ x).cps.toList:=by
  rw [aL,aL,show (a_ " ").cps.toList=[32] by kernel_rfl];simp
 unfold pu;rw [sL hin (by decide),sL hin (by decide),if_neg n_,if_neg n_,(ut hw).1,(ut hw).2]
def toR (n:Note):Raw:=⟨n.nm,n.w,some n.house,some n.ex,some n.path,n.ends,n.S,n.R,some n.md,some n.us⟩
theorem AJ (n:Note):Dv.tup (rw' (toR n))=enc n:=rfl
theorem c4 {a b:String} (x:Str) (h:a_ a=a_ b ++ a_ " "):a_ a ++ x=a_ b ++ a_ " " ++ x:=by rw [h]
section
variable {n:Note}
theorem pu1 (r:Raw):pu r (P1 n)={ r with house:=some n.house,ex:=some n.ex }:=by
 unfold P1;cases n.ex
 · show pu r (a_ "for " ++ n.house)=_;rw [c4 (b:="for") n.house (by kernel_rfl),gj (by decide)];rfl
 · show pu r (a_ "only " ++ n.house)=_;rw [c4 (b:="only") n.house (by kernel_rfl),gj (by decide)];rfl
theorem pu2 (r:Raw):pu r (P2 n)={ r with path:=some n.path }:=by
 unfold P2;rw [c4 (b:="under") n.path (by kernel_rfl),gj (by decide)];rfl
theorem pu5 (r:Raw) {i:Int} (h0:0≤i) (h1:i≤9999):pu r (a_ "until " ++ is i)={ r with ends:=some i }:=by
 rw [c4 (b:="until") (is i) (by kernel_rfl),gj (by decide),(ly h0 h1).1,(ly h0 h1).2];rfl
theorem pu8 (r:Raw) {i:Int} (h0:0≤i) (h1:i≤9999):pu r (a_ "made " ++ is i)={ r with md:=some i }:=by
 rw [c4 (b:="made") (is i) (by kernel_rfl),gj (by decide),(ly h0 h1).1,(ly h0 h1).2];rfl
theorem pu9 (r:Raw) {i:Int} (h0:0≤i) (h1:i≤9999):pu r (a_ "used " ++ is i)={ r with us:=some i }:=by
 rw [c4 (b:="used") (is i) (by kernel_rfl),gj (by decide),(ly h0 h1).1,(ly h0 h1).2];rfl
theorem qq (h:61 ∉ n.nm.cps.toList):wA (Tz n.nm n.w)=n.nm∧wZ (Tz n.nm n.w)=n.w:=by
 unfold wA wZ;rw [Di];rcases iN (Tz n.nm n.w) 61 with ⟨h2,_⟩ | ⟨a,b,e2,ha,ep⟩
 · exact absurd (by rw [dJ]; simp) h2
 · obtain ⟨r1,r2⟩:=dI (e2.symm.trans (dJ n.nm n.w)) ha h;rw [ep];exact ⟨cZ (by rw [← r1]),cZ (by rw [← r2])⟩
theorem AK (g:Good n):(PLn n).foldl pu (r0 n.nm n.w)=toR n:=by
 unfold PLn;rw [Ga,Ga,pu1,pu2,Ic,Ic,Ic];have s5:∀ r:Raw,r.ends=none→(oI "until " n.ends).toList.foldl pu r={ r with ends:=n.ends }:=by
  intro r hr;unfold oI;cases he:n.ends with
  | none=>cases r; cases hr; rfl
  | some i =>
   have:=g.ends i he;show pu r (a_ "until " ++ is i)=_;rw [pu5 r this.1 this.2]
 have s6:∀ r:Raw,r.S=c_→(oB "safe" n.S).toList.foldl pu r={ r with S:=n.S }:=by
  intro r hr;cases n.S with
  | false=>cases r; cases hr; rfl
  | true=>rfl
 have s7:∀ r:Raw,r.R=a_ "any"→(oB "near" (dR n.R)).toList.foldl pu r={ r with R:=n.R }:=by
  intro r hr;rcases g.R with h | h
  · rw [h]; cases r; cases hr; rfl
  · rw [h]; rfl
 rw [s5 _ rfl,s6 _ rfl,s7 _ rfl];show pu (pu _ (P8 n)) (P9 n)=_;have h0:=g.mk0; have h1:=g.mu; have h2:=g.us;unfold P8 P9;rw [pu8 _ (by omega) (by omega),pu9 _ (by omega) (by omega)];rfl
theorem wO (g:Good n):bh [.str (Ln n)]=some (.ok (enc n)):=by
 have hl:=mx g;rw [qp (by omega) (gI g),(qq (Az g (by decide))).1,(qq (Az g (by decide))).2,AK g,AJ]
end
end PT
namespace PT
open PySem PySem.Spec PyProof.Rows L2 FD PySem.Builtin.Str
structure RL (r:Raw):Prop where
 nm:r.nm.length≤90000
 w:r.w.length≤90000
 house:∀ h,r.house=some h→h.length≤90000
 path:∀ h,r.path=some h→h.length≤90000
 R:r.R=a_ "any"∨r.R=a_ "near"
theorem RL.pu {r:Raw} (h:RL r) {p:Str} (hp:p.length≤90000):RL (pu r p):=by
 have hr:=ur p;unfold PT.pu pmo;split
 · exact ⟨h.nm,h.w,h.house,h.path,h.R⟩
 split
 · rename_i q;exact ⟨h.nm,h.w,h.house,h.path,.inr (iz q)⟩
 split
 · exact ⟨h.nm,h.w,fun z hz=>by cases hz; omega,h.path,h.R⟩
 split
 · exact ⟨h.nm,h.w,h.house,fun z hz=>by cases hz; omega,h.R⟩
 split
 · split
   · exact ⟨h.nm,h.w,h.house,h.path,h.R⟩
   split
   · exact ⟨h.nm,h.w,h.house,h.path,h.R⟩
   split
   · exact ⟨h.nm,h.w,h.house,h.path,h.R⟩
   · exact h
 · exact h
theorem RL.all:∀ {ps:List Str} {r:Raw},RL r→(∀ p∈ps,p.length≤90000)→RL (ps.foldl PT.pu r)
 | [],r,h,_=>h
 | p :: ps,r,h,hp=>RL.all (ps:=ps) (r:=PT.pu r p) (h.pu (hp p g_)) fun q hq=>hp q (f_ _ hq)
theorem call3 (F:List Dv→Option (Rs Dv)) {f g k:FnE} {ρ:Ev} {a b c d:Dv} (h:f ρ=some (.ok a)) (h':g ρ=some (.ok b)) (h'':k ρ=some (.ok c)) (hF:F [a,b,c]=some (.ok d)):aj F 3 (aa f (aa g (aa k ag))) ρ=some (.ok d) :=
 cg (ae h (ae h' (ae h'' ai))) rfl hF
def moO:Option Int→Bool
 | none=>c_
 | some i=>h_ (0≤i) && h_ (i≤9999)
theorem AM (o:Option Int):aN [eO o]=bo (moO o):=by
 cases o with
 | none=>kernel_rfl
 | some i=>exact wz i
def moN:Option Int→Bool
 | none=>b_
 | some i=>h_ (0≤i) && h_ (i≤9999)
theorem AN (o:Option Int):az [eO o]=bo (moN o):=by
 cases o with
 | none=>kernel_rfl
 | some i =>
  refine bi ?_;show aC [some (.int i)]=_;unfold aC;refine aV ?_;rw [Ck rfl];exact bT aN rfl (wz i)
def nmO:Option Str→Bool
 | none=>c_
 | some i=>nmB i
def ptO:Option Str→Bool
 | none=>c_
 | some i=>ptB i
theorem EH {o:Option Str} (h:∀ x,o=some x→x.length≤90000):cu [eS o]=bo (nmO o):=by
 cases o with
 | none=>kernel_rfl
 | some x=>exact (nm_of (h x rfl)).1
theorem EI {o:Option Str} (h:∀ x,o=some x→x.length≤90000):cw [eS o]=bo (ptO o):=by
 cases o with
 | none=>kernel_rfl
 | some x=>exact (pt_of (h x rfl)).1
theorem EJ (o:Option Bool):eQ c9 (eB o)=bo o.isSome:=by cases o <;> rfl
theorem AO {r:Raw} (h:RL r):∃ b,aS [.tup (rw' r)]=bo b∧(b=b_→∃ n,Good n∧r=toR n):=by
 obtain ⟨E,hE⟩:∃ E:Ev,E=[some (.tup (rw' r))]:=⟨_,rfl⟩;have c1:dL (fB (aj bO 2 (aa (ac 0) (aa (fC (.int 10)) ag)))) E=some (.ok c_):=bS (aU (k:=b_) (oO bO (a:=.tup (rw' r)) (by rw [hE]; rfl) (b:=.int 10) rfl (by kernel_rfl)));have ix {k:Int} {d:Dv} (hd:ixD (.tup (rw' r)) (.int k)=some (.ok d)):f2 ixD (ac 0) (fC (.int k)) E=some (.ok d):=(aq (x:=.tup (rw' r)) (y:=.int k) (by rw [hE]; rfl) rfl).trans hd;have m8:=bT aN (ix (k:=8) (d:=eO r.md) rfl) (AM r.md);have m9:=bT aN (ix (k:=9) (d:=eO r.us) rfl) (AM r.us);have c2:=gg (bS (aU m8)) (bS (aU m9));have run:aS [.tup (rw' r)]=match dv E with
  | some (.nx _)=>some (.ok .non)
  | some (.rt d)=>some (.ok d)
  | _=>none:=by rw [hE]; rfl
 rw [run];unfold dv;rw [ao (cf c1),ii c2];by_cases hm:moO r.md=b_∧moO r.us=b_
 · rw [hm.1,hm.2,if_neg (by decide)];obtain ⟨i,hi⟩:∃ i,r.md=some i:=by
    cases q:r.md with
    | none=>rw [q] at hm; cases hm.1
    | some i=>exact ⟨i,rfl⟩
   obtain ⟨j,hj⟩:∃ j,r.us=some j:=by
    cases q:r.us with
    | none=>rw [q] at hm; cases hm.2
    | some i=>exact ⟨i,rfl⟩
   have le:f2 leX (f2 ixD (ac 0) (fC (.int 8))) (f2 ixD (ac 0) (fC (.int 9))) E=bo (h_ (i≤j)):=(aq (x:=.int i) (y:=.int j) (ix (by show some (Rs.ok (eO r.md))=_; rw [hi]; rfl)) (ix (by show some (Rs.ok (eO r.us))=_; rw [hj]; rfl))).trans rfl;have rc:dq [.str r.R]=bo b_:=(qd h.R).1;have L:=dX (ae (bT bC (ix (k:=0) (d:=.str r.nm) rfl) (nn_of h.nm)) (ae (bT du (ix (k:=1) (d:=.str r.w) rfl) (wt_of h.w)) (ae (bT cu (ix (k:=2) (d:=eS r.house) rfl) (EH h.house)) (ae ((yV (ix (k:=3) (d:=eB r.ex) rfl)).trans (EJ r.ex)) (ae (bT cw (ix (k:=4) (d:=eS r.path) rfl) (EI h.path)) (ae (bT az (ix (k:=5) (d:=eO r.ends) rfl) (AN r.ends)) (ae (x:=.bl b_) ((yV (g:=eQ c9) (ix (k:=6) (d:=.bl r.S) rfl)).trans rfl) (ae (bT dq (ix (k:=7) (d:=.str r.R) rfl) rc) (ae le ai))))))))) (by show 9≤100000; decide);rw [aV ((aW (g:=iW) (ae L ai)).trans (all_map id [nB r.nm,wB r.w,nmO r.house,r.ex.isSome,ptO r.path,moN r.ends,b_,b_,h_ (i≤j)]))];refine ⟨_,rfl,fun hb=>?_⟩;simp only [Hi,List.all_nil,id,i_,decide_eq_true_eq] at hb;obtain ⟨b1,b2,b3,b4,b5,b6,_,_,b9,_⟩:=hb;obtain ⟨ho,eh⟩:∃ x,r.house=some x:=by
    cases q:r.house with
    | none=>rw [q] at b3; cases b3
    | some x=>exact ⟨x,rfl⟩
   obtain ⟨pa,ep⟩:∃ x,r.path=some x:=by
    cases q:r.path with
    | none=>rw [q] at b5; cases b5
    | some x=>exact ⟨x,rfl⟩
   obtain ⟨ex,ee⟩:=Gv.mp b4;have hm1:=hm.1;have hm2:=hm.2;rw [hi] at hm1;rw [hj] at hm2;simp only [moO,i_,decide_eq_true_eq] at hm1 hm2;refine ⟨⟨r.nm,r.w,ho,ex,pa,r.ends,r.S,r.R,i,j⟩,⟨b1,b2,by rw [eh] at b3; exact b3,h.house ho eh,by rw [ep] at b5; exact b5,h.path pa ep,h.R,fun k hk=>?_,hm1.1,b9,hm2.2⟩,?_⟩
   · have hk':r.ends=some k:=hk;rw [hk'] at b6;simpa [moN] using b6
   · unfold toR;cases r;cases hi; cases hj; cases eh; cases ep; cases ee;rfl
 · have:(!moO r.md || !moO r.us)=b_:=by
    cases q1:moO r.md <;> cases q2:moO r.us <;> simp_all
   rw [this,if_pos rfl];exact ⟨c_,rfl,fun h=>by cases h⟩
def It (d:Dv):Prop:=d=.non∨∃ r,RL r∧d=.tup (rw' r)
theorem wP {d:Dv} (h:It d):∃ b,aS [d]=bo b∧(b=b_→∃ n,Good n∧d=enc n):=by
 rcases h with rfl | ⟨r,hr,rfl⟩
 · exact ⟨c_,by kernel_rfl,fun h=>by cases h⟩
 · obtain ⟨b,e,hb⟩:=AO hr;refine ⟨b,e,fun h=>?_⟩;obtain ⟨n,g,rfl⟩:=hb h;exact ⟨n,g,rfl⟩
def ntB (d:Dv):Bool:=okY (aS [d])
theorem uv {d:Dv} (h:It d):aS [d]=bo (ntB d)∧(ntB d=b_→∃ n,Good n∧d=enc n):=by
 obtain ⟨b,e,hb⟩:=wP h;have:ntB d=b:=by unfold ntB; rw [e,ko]
 rw [this];exact ⟨e,hb⟩
theorem mB:∀ {ds:List Dv},(∀ d∈ds,∃ n,Good n∧d=enc n)→∃ js:List Note,(∀ n∈js,Good n)∧ds=js.map enc
 | [],_=>⟨[],fun n h=>(by cases h),rfl⟩
 | d :: ds,h=>by
  obtain ⟨n,g,rfl⟩:=h d g_;obtain ⟨js,gs,rfl⟩:=mB (ds:=ds) fun e he=>h e (f_ _ he);exact ⟨n :: js,fun m hm=>(q_.mp hm).elim (fun z=>z ▸ g) (gs m),rfl⟩
theorem uw {ds:List Dv} (h:∀ d∈ds,It d) (hl:ds.length≤100000):∃ b,bg [.tup ds]=bo b∧(b=b_→∃ js,Jar js∧ds=js.map enc):=by
 by_cases h20:ds.length≤20
 · by_cases ha:ds.all ntB=b_
   · obtain ⟨js,gs,rfl⟩:=mB (ds:=ds) fun d hd=>(uv (h d hd)).2 (r_.mp ha d hd);rw [s_] at h20;exact ⟨isJ js,Aq gs h20,fun hj=>⟨js,Ar gs h20 hj,rfl⟩⟩
   · refine ⟨c_,?_,fun z=>by cases z⟩;rw [Me] at ha;have tb:(bOr (dL (fB (f1 (eQ eV) (ac 0)))) (fB (f2 gtD (fB1 bA (aa (ac 0) ag)) (fC (.int 20))))) [some (.tup ds)]=some (.ok c_):=by
      have e3:¬ (20 < (ds.length:Int)):=by omega
      refine (oN rfl).trans (aU ((aq (x:=.int (ds.length:Int)) (y:=.int 20) rfl rfl).trans ?_));show some (Rs.ok (Dv.bl (h_ ((ds.length:Int) > 20))))=_;rw [decide_eq_false e3]
     have e:=cF (cs:=[]) (src:=cp (ac 0)) (elt:=aj aS 1 (aa (ac 0) ag)) (ρ:=[some (.tup ds)]) id (fun d=>Dv.bl (ntB d)) (l:=ds) (by rw [List.map_id]; rfl) (by omega) fun d hd=>bT aS rfl (uv (h d hd)).1;have tc:=(aW (g:=iW) (ae e ai)).trans (all_map ntB ds);rw [ha] at tc;refine bi ?_;show cD [some (.tup ds)]=_;unfold cD;rw [ao (cf tb)];rw [iX (d:=.bl c_)];rw [sD (bS (k:=c_) (aU tc))];rfl
 · refine ⟨c_,?_,fun z=>by cases z⟩;have tb:(bOr (dL (fB (f1 (eQ eV) (ac 0)))) (fB (f2 gtD (fB1 bA (aa (ac 0) ag)) (fC (.int 20))))) [some (.tup ds)]=some (.ok b_):=by
    have e3:(20 < (ds.length:Int)):=by omega
    refine (oN rfl).trans (aU ((aq (x:=.int (ds.length:Int)) (y:=.int 20) rfl rfl).trans ?_));show some (Rs.ok (Dv.bl (h_ ((ds.length:Int) > 20))))=_;rw [decide_eq_true e3]
   refine bi ?_;show cD [some (.tup ds)]=_;unfold cD;rw [iX (d:=.bl c_)];rw [sD tb];rfl
end PT
namespace PT
open PySem PySem.Spec PyProof.Rows L2 FD PySem.Builtin.Str
structure Tx (x:Str):Prop where
 l:x.length≤90000
 s:Sg x
def rst (s W:Str):Str:=FP s (some ((W.length + 1:Nat):Int)) none
theorem lA (s W:Str):(rst s W).length≤s.length:=Hs _ _ _
theorem AQ {s W:Str} (h:Sg s):Sg (rst s W):=fun c hc=>by
 unfold rst at hc;rw [eH] at hc;exact h c (GA hc)
theorem mC (W:Str):(W ++ a_ " ").cps.toList=W.cps.toList ++ [32]:=by
 rw [iA];exact KY
theorem gk {p W:Str} (h:uk p (W ++ a_ " ")=b_):p=W ++ a_ " " ++ rst p W:=by
 obtain ⟨b,e⟩:=(bY _ _).mp h;have:(rst p W).cps.toList=b:=by
  unfold rst;rw [eH,e,mC];have:W.length + 1=(W.cps.toList ++ [32]).length:=by rw [z_,ES]; rfl
  rw [this,Ih]
 refine cZ ?_;rw [aL,this,e]
theorem qr (W x:Str):rst (W ++ a_ " " ++ x) W=x∧uk (W ++ a_ " " ++ x) (W ++ a_ " ")=b_:=by
 have h:uk (W ++ a_ " " ++ x) (W ++ a_ " ")=b_:=(bY _ _).mpr ⟨x.cps.toList,aL _ _⟩;refine ⟨?_,h⟩;have e:=gk h;refine cZ ?_;have:=congrArg (fun s:Str=>s.cps.toList) e;simp only [aL] at this;exact (List.append_cancel_left this).symm
def lmB (p W:Str):Bool:=uk p (W ++ a_ " ") && (mtB (rst p W) && seq (rst p W) (is (mtV (rst p W))))
def lm:List Str→Str→Int
 | [],_=>-1
 | p :: _,W=>if lmB p W=b_ then mtV (rst p W) else -1
theorem AR {ps:List Str} (h:∀ p∈ps,Tx p):eqX (.lst (ps.map Dv.str)) (.lst [])=bo ps.isEmpty:=by
 cases ps with
 | nil=>kernel_rfl
 | cons c r =>
  have i2:okP (.lst ((c :: r).map Dv.str))=b_:=(iM (k:=0) fun d hd=>by
   obtain ⟨a,ha,rfl⟩:=Fq.mp hd;exact kj (by
    show a.cps.all (fun c=>h_ (c < 0x110000))=b_;rw [← JQ,r_];intro c hc;simpa using (h a ha).s c hc)).okP (by omega)
  have i3:okP (.lst [])=b_:=by kernel_rfl
  show eqX (.lst ((c :: r).map Dv.str)) (.lst [])=bo c_;unfold eqX;rw [show eqS (.lst ((c :: r).map Dv.str)) (.lst [])=none from rfl,i2,i3];simp [bP,toPys,FH,Gh]
theorem wQ {x:Str} (h:Sg x):It1 0 (.str x):=kj (by
 show x.cps.all (fun c=>h_ (c < 0x110000))=b_;rw [← JQ,r_];intro c hc;simpa using h c hc)
theorem Dj {x:Str} {ρ:Ev} {k:Nat} (hx:Tx x) (h2:ac k ρ=some (.ok (.str x))):fB (f2 neX (cz [] (cp (ac k)) (some (fB (f2 dh (ac 0) (fC (.str "0123456789"))))) (ac 0)) (bD ag)) ρ=some (.ok (!allIn x dgs)):=by
 have e:=kh (cs:=[]) (src:=cp (ac k)) (tst:=fB (f2 dh (ac 0) (fC (.str "0123456789")))) (elt:=ac 0) (ρ:=ρ) one (fun c=>!h_ (c∈dgs.cps.toList)) one (l:=x.cps.toList) (by unfold cp; rw [h2]; rfl) (by rw [ES]; exact EW hx.l (by omega)) fun c _=>⟨aU ((aq (x:=one c) (y:=.str "0123456789") rfl rfl).trans (iO c dgs)),rfl⟩;have n1:=sH (l:=x.cps.toList.filter fun c=>!h_ (c∈dgs.cps.toList)) fun c hc=>hx.s c (HE.mp hc).1;refine aU (((aq (g:=neX) e (dX ai (by show 0≤100000; decide))).trans n1).trans ?_);have:(x.cps.toList.filter fun c=>!h_ (c∈dgs.cps.toList)).isEmpty=allIn x dgs:=by
  rw [Fv,Mc,List.filter_eq_nil_iff];unfold allIn;rw [r_];constructor
  · intro h c hc;have:=h c hc;simpa using this
  · intro h c hc;have:=h c hc;simpa using this
 rw [this]
theorem Dk {x:Str} {ρ:Ev} {k:Nat} (hx:Tx x) (h2:ac k ρ=some (.ok (.str x))):bOr (fB (f2 eqX (ac k) (fC (.str "")))) (bOr (fB (f2 gtD (fB1 bA (aa (ac k) ag)) (fC (.int 4)))) (fB (f2 neX (cz [] (cp (ac k)) (some (fB (f2 dh (ac 0) (fC (.str "0123456789"))))) (ac 0)) (bD ag)))) ρ=some (.ok (!mtB x)):=by
 have c1:fB (f2 eqX (ac k) (fC (.str ""))) ρ=some (.ok (seq x (a_ ""))):=aU ((aq (y:=.str "") h2 rfl).trans rfl);have c2:fB (f2 gtD (fB1 bA (aa (ac k) ag)) (fC (.int 4))) ρ=some (.ok (h_ ((x.length:Int) > 4))):=aU ((aq (x:=.int (x.length:Int)) (y:=.int 4) ((aW (ae h2 ai)).trans (len_str (EW hx.l (by omega)))) rfl).trans rfl);rw [gg c1 (gg c2 (Dj hx h2))];have hm:=(qc hx.l).2;have hl:x.length=x.cps.toList.length:=by rw [ES]; rfl
 have hseq:seq x (a_ "")=h_ (x.length=0):=by
  unfold seq;rw [show (a_ "").cps.toList=[] from rfl,hl];cases x.cps.toList <;> simp
 congr 2;rw [hm,hseq];show _=!(_ && _ && allIn x dgs);cases allIn x dgs
 · simp
 · simp only [Gw,JD,Bool.and_true];rw [Fv];simp;omega
theorem wR {ps:List Str} {W:Str} (hW:W.length≤10) (h:∀ p∈ps,Tx p):ax [.lst (ps.map Dv.str),.str W]=some (.ok (.int (lm ps W))):=by
 refine bi ?_;show bN [some (.lst (ps.map Dv.str)),some (.str W),none]=_;unfold bN;have e1:fB (f2 eqX (ac 0) (bD ag)) [some (.lst (ps.map Dv.str)),some (.str W),none]=some (.ok ps.isEmpty):=aU ((aq (x:=.lst (ps.map Dv.str)) rfl (dX ai (by show 0≤100000; decide))).trans (AR h));cases ps with
 | nil =>
  rw [bI (d:=.int (-1)) (rE e1) (fun _=>by kernel_rfl),if_pos rfl];rfl
 | cons p ps =>
  have hp:=h p g_;have ix:∀ z,f2 ixD (ac 0) (fC (.int 0)) [some (.lst ((p :: ps).map Dv.str)),some (.str W),z]=some (.ok (.str p)):=fun z=>(aq (x:=.lst ((p :: ps).map Dv.str)) (y:=.int 0) rfl rfl).trans rfl;have ad:f2 addD (ac 1) (fC (.str " ")) [some (.lst ((p :: ps).map Dv.str)),some (.str W),none]=some (.ok (.str (W ++ a_ " "))):=(aq (x:=.str W) (y:=.str " ") rfl rfl).trans (iy (by have:(a_ " ").length=1:=(by decide); omega));have st:fB (fM (kU uk) (f2 ixD (ac 0) (fC (.int 0))) (aa (f2 addD (ac 1) (fC (.str " "))) ag)) [some (.lst ((p :: ps).map Dv.str)),some (.str W),none]=some (.ok (uk p (W ++ a_ " "))):=aU ((fM_of (x:=p) (ix none) (ae ad ai)).trans rfl);have c1:=gg e1 (bS st);rw [bI (d:=.int (-1)) c1 (fun _=>by kernel_rfl)];have cut:lM (f2 ixD (ac 0) (fC (.int 0))) (am (f2 addD (fB1 bA (aa (ac 1) ag)) (fC (.int 1)))) au [some (.lst ((p :: ps).map Dv.str)),some (.str W),none]=some (.ok (.str (rst p W))):=by
   have z:f2 addD (fB1 bA (aa (ac 1) ag)) (fC (.int 1)) [some (.lst ((p :: ps).map Dv.str)),some (.str W),none]=some (.ok (.int ((W.length + 1:Nat):Int))):=(aq (x:=.int (W.length:Int)) (y:=.int 1) ((aW (ae (x:=.str W) rfl ai)).trans (len_str (by omega))) rfl).trans rfl;unfold lM am;rw [ix none];show bnd (bnd (f2 addD (fB1 bA (aa (ac 1) ag)) (fC (.int 1)) [some (.lst ((p :: ps).map Dv.str)),some (.str W),none]) _) _=_;rw [z];show (if p.length≤100000 then some (Rs.ok (Dv.str (FP p (some ((W.length + 1:Nat):Int)) none))) else none)=_;rw [if_pos (by have:=hp.l; omega)];rfl
  rw [ao (aB (ρ':=[some (.lst ((p :: ps).map Dv.str)),some (.str W),some (.str (rst p W))]) cut rfl)];have tr:Tx (rst p W):=⟨EW (lA p W) hp.l,AQ hp.s⟩;rw [bI (d:=.int (-1)) (Dk (k:=2) (ρ:=[some (.lst ((p :: ps).map Dv.str)),some (.str W),some (.str (rst p W))]) tr rfl) (fun _=>by kernel_rfl)];show (if (c_ || !uk p (W ++ a_ " "))=b_ then _ else if (!mtB (rst p W))=b_ then _ else _)=some (Fl.rt (.int (if lmB p W=b_ then mtV (rst p W) else -1)));unfold lmB;cases uk p (W ++ a_ " ")
  · rfl
  · cases hm:mtB (rst p W)
    · rfl
    · have bd:=Ay hm tr.l;have it:fB1 qM (aa (ac 2) ag) [some (.lst ((p :: ps).map Dv.str)),some (.str W),some (.str (rst p W))]=some (.ok (.int (mtV (rst p W)))):=(aW (ae (x:=.str (rst p W)) rfl ai)).trans (uj hm tr.l);have sd:fB1 nz (aa (fB1 qM (aa (ac 2) ag)) ag) [some (.lst ((p :: ps).map Dv.str)),some (.str W),some (.str (rst p W))]=some (.ok (.str (is (mtV (rst p W))))):=(aW (ae it ai)).trans (sJ bd.1 bd.2);have cc:fB (f2 eqX (ac 2) (fB1 nz (aa (fB1 qM (aa (ac 2) ag)) ag))) [some (.lst ((p :: ps).map Dv.str)),some (.str W),some (.str (rst p W))]=some (.ok (seq (rst p W) (is (mtV (rst p W))))):=aU ((aq (x:=.str (rst p W)) rfl sd).trans rfl);show bb _ _=_;simp only [Bool.true_and];cases hq:seq (rst p W) (is (mtV (rst p W)))
      · rw [hq] at cc;exact aV ((yX cc).trans (by kernel_rfl))
      · rw [hq] at cc;exact aV ((yW cc).trans it)
theorem mD {p:Str} {ps:List Str} {W:Str} (hp:Tx p) (h:lm (p :: ps) W≠-1):∃ i,lm (p :: ps) W=i∧0≤i∧i≤9999∧p=W ++ a_ " " ++ is i:=by
 have e:lm (p :: ps) W=if lmB p W=b_ then mtV (rst p W) else -1:=rfl;rw [e] at h ⊢;by_cases hb:lmB p W=b_
 · rw [if_pos hb];unfold lmB at hb;simp only [i_] at hb;obtain ⟨h1,h2,h3⟩:=hb;have bd:=Ay h2 (EW (lA p W) hp.l);refine ⟨_,rfl,bd.1,bd.2,?_⟩;rw [← iz h3];exact gk h1
 · rw [if_neg hb] at h;exact absurd rfl h
theorem qt {i:Int} (h0:0≤i) (h1:i≤9999) (W:Str) (ps:List Str):lm ((W ++ a_ " " ++ is i) :: ps) W=i:=by
 obtain ⟨r1,r2⟩:=qr W (is i);obtain ⟨m1,m2⟩:=ly h0 h1;have e:lm ((W ++ a_ " " ++ is i) :: ps) W=if lmB (W ++ a_ " " ++ is i) W=b_ then mtV (rst (W ++ a_ " " ++ is i) W) else -1:=rfl;rw [e];unfold lmB;rw [r1,r2,m1,m2,qm];rfl
end PT
namespace PT
open PySem PySem.Spec PyProof.Rows L2 FD PySem.Builtin.Str
def unt (q:Str):Bool:=uk q (a_ "until ")
def hd1 (l:List Str) (w:Str):Bool:=match l with
 | []=>c_
 | x :: _=>seq x w
def dr1 (l:List Str) (b:Bool):List Str:=if b=b_ then l.drop 1 else l
def wd (p:Str):Str:=(u_ p (a_ " ")).headD (a_ "")
def sd0 (p:Str):Str:=(u_ p (a_ "=")).headD (a_ "")
def sd1 (p:Str):Str:=((u_ p (a_ "=")).drop 1).headD (a_ "")
structure Tl where
 e:Option Int
 s:Bool
 n:Bool
 r:List Str
def eI (q:Str) (qs:List Str):Tl :=
 let e:=if unt q=b_ then some (lm (q :: qs) (a_ "until")) else none
 let r1:=dr1 (q :: qs) (unt q)
 let s:=hd1 r1 (a_ "safe")
 let r2:=dr1 r1 s
 let n:=hd1 r2 (a_ "near")
 ⟨e,s,n,dr1 r2 n⟩
def okT (t:Tl):Bool:=h_ (t.r.length=2) && (!h_ (lm t.r (a_ "made")=-1) && (!h_ (lm (t.r.drop 1) (a_ "used")=-1) && !h_ (t.e=some (-1))))
def nR (b:Bool):Str:=if b=b_ then a_ "near" else a_ "any"
def xn (p0 p1 p2:Str) (t:Tl):Note:=⟨sd0 p0,sd1 p0,rst p1 (wd p1),seq (wd p1) (a_ "only"),FP p2 (some 6) none,t.e,t.s,nR t.n,lm t.r (a_ "made"),lm (t.r.drop 1) (a_ "used")⟩
def okA (p0 p2:Str):Bool:=h_ ((u_ p0 (a_ "=")).length=2) && uk p2 (a_ "under ")
def okW (p1:Str):Bool:=(seq (wd p1) (a_ "only") || seq (wd p1) (a_ "for")) && h_ (32∈p1.cps.toList)
def AS:List Str→Dv
 | p0 :: p1 :: p2 :: q :: q' :: qs=>if okA p0 p2=b_ then (if okW p1=b_ then (if okT (eI q (q' :: qs))=b_ then enc (xn p0 p1 p2 (eI q (q' :: qs))) else .non) else .non) else .non
 | _=>.non
theorem AT (l:List Str):zf (.lst (l.map Dv.str)) none (some 1)=some (.ok (.lst ((l.take 1).map Dv.str))):=by
 show some (Rs.ok (Dv.lst (fv (l.map Dv.str) none (some 1))))=_;cases l with
 | nil=>rfl
 | cons x l =>
  rw [show (1:Int)=((1:Nat):Int) by rfl,wJ _ 1 (by simp),List.map_take]
theorem sM (l:List Str) (b:Bool):zf (.lst (l.map Dv.str)) (some (if b=b_ then 1 else 0)) none=some (.ok (.lst ((dr1 l b).map Dv.str))):=by
 show some (Rs.ok (Dv.lst (fv (l.map Dv.str) (some (if b=b_ then 1 else 0)) none)))=_;cases l with
 | nil=>cases b <;> rfl
 | cons x l =>
  cases b
  · rw [if_neg n_,show (0:Int)=((0:Nat):Int) by rfl,im _ 0 (by simp)];rfl
  · rw [if_pos rfl,show (1:Int)=((1:Nat):Int) by rfl,im _ 1 (by simp)];rfl
theorem AU {x w:Str} (hx:Sg x) (hw:Sg w):eqX (.lst [.str x]) (.lst [.str w])=bo (seq x w):=by
 have i1:okP (.lst [.str x])=b_:=(iM (k:=0) fun d hd=>by
  rw [Fc.mp hd];exact wQ hx).okP (by omega)
 have i2:okP (.lst [.str w])=b_:=(iM (k:=0) fun d hd=>by
  rw [Fc.mp hd];exact wQ hw).okP (by omega)
 unfold eqX;rw [show eqS (.lst [.str x]) (.lst [.str w])=none from rfl,i1,i2];have:FH (bP (.lst [.str x])) (bP (.lst [.str w]))=seq x w:=by
  rw [← FD.seq_eq];simp [bP,toPys,FH,Gh]
 rw [this];rfl
theorem AV {l:List Str} {w:Str} (hl:∀ x∈l,Tx x) (hw:Sg w):eqX (.lst ((l.take 1).map Dv.str)) (.lst [.str w])=bo (hd1 l w):=by
 cases l with
 | nil =>
  have i2:okP (.lst [.str w])=b_:=(iM (k:=0) fun d hd=>by
   rw [Fc.mp hd];exact wQ hw).okP (by omega)
  have i3:okP (.lst [])=b_:=by kernel_rfl
  show eqX (.lst []) (.lst [.str w])=bo c_;unfold eqX;rw [show eqS (.lst []) (.lst [.str w])=none from rfl,i2,i3];simp [bP,toPys,FH,Gh]
 | cons x l=>exact AU (hl x g_).s hw
theorem iP {l:List Str} {b:Bool} (h:∀ x∈l,Tx x):∀ x∈dr1 l b,Tx x:=fun x hx=>by
 unfold dr1 at hx;split at hx
 · exact h x (GA hx)
 · exact h x hx
theorem sO {l:List Str} (h:∀ x∈l,Tx x):∀ x∈l.drop 1,Tx x:=fun x hx=>h x (GA hx)
theorem qu (b:Bool):v9 [.bl b]=some (.ok (.int (if b=b_ then 1 else 0))):=rfl
theorem EK {a b:Int}:inX (.int (-1)) (.tup [.int a,.int b])=bo (h_ (a=-1) || h_ (b=-1)):=by
 show (match tW (.int (-1)) (.tup [.int a,.int b]) with | some b=>some (Rs.ok (Dv.bl b)) | none=>none)=_
 have:tW (.int (-1)) (.tup [.int a,.int b])=some (h_ (a=-1) || h_ (b=-1)):=by
  show some ((a == -1) || ((b == -1) || false))=_;rw [JD];rfl
 rw [this]
theorem wS {l:List Str} {x:Str} {r:List Str} (h:l=x :: r):ixD (.lst (l.map Dv.str)) (.int 0)=some (.ok (.str x)):=by rw [h]; rfl
end PT
namespace PT
open PySem PySem.Spec PyProof.Rows L2 FD PySem.Builtin.Str
theorem bF {fa:FnE} {fl fh:FnO} {ρ:Ev} {x:Dv} {l h:Option Int} (h1:fa ρ=some (.ok x)) (h2:fl ρ=some (.ok l)) (h3:fh ρ=some (.ok h)):aw fa fl fh ρ=zf x l h:=by
 unfold aw;rw [h1];show bnd (fl ρ) _=_;rw [h2];show bnd (fh ρ) _=_;rw [h3];rfl
theorem gJ {f:FnE} {ρ:Ev} {i:Int} (h:f ρ=some (.ok (.int i))):am f ρ=some (.ok (some i)):=by
 unfold am;rw [h];rfl
theorem lB {l:List Str} {ρ:Ev} {k:Nat} (h:ac k ρ=some (.ok (.lst (l.map Dv.str)))):fB1 bA (aa (ac k) ag) ρ=some (.ok (.int (l.length:Int))):=(aW (ae h ai)).trans (by
 show some (Rs.ok (Dv.int ((l.map Dv.str).length:Int)))=_;rw [s_])
theorem wT (x:Str):fI (.str x) (.tup [.str (a_ "only"),.str (a_ "for")])=bo (!(seq x (a_ "only") || seq x (a_ "for"))):=by
 show (match tW (.str x) (.tup [.str (a_ "only"),.str (a_ "for")]) with | some b=>some (Rs.ok (Dv.bl (!b))) | none=>none)=_
 have:tW (.str x) (.tup [.str (a_ "only"),.str (a_ "for")])=some (seq x (a_ "only") || seq x (a_ "for")):=by
  show some (seq (a_ "only") x || (seq (a_ "for") x || false))=_;have cm:∀ a b:Str,seq a b=seq b a:=fun a b=>by unfold seq; exact Bool.beq_comm
  rw [JD,cm _ x,cm _ x]
 rw [this]
theorem qv (x:Str):fI (.str (a_ " ")) (.str x)=bo (!h_ (32∈x.cps.toList)):=by
 rw [iA];show some (Rs.ok (Dv.bl (!inS ⟨#[32]⟩ x)))=_;rw [p7]
def AW:FnS:=(aG (bn 5 (fC .non)) (aG (bZ (fB (fM (kU uk) (f2 ixD (ac 4) (fC (.int 0))) (aa (fC (.str "until ")) ag))) (aG (bn 5 (aj ax 2 (aa (ac 4) (aa (fC (.str "until")) ag)))) (bn 4 (aw (ac 4) (am (fC (.int 1))) au))) (fun ρ=>some (.nx ρ))) (aG (bn 6 (f2 eqX (aw (ac 4) au (am (fC (.int 1)))) (bD (aa (fC (.str "safe")) ag)))) (aG (bn 4 (aw (ac 4) (am (fB1 v9 (aa (ac 6) ag))) au)) (aG (bn 7 (f2 eqX (aw (ac 4) au (am (fC (.int 1)))) (bD (aa (fC (.str "near")) ag)))) (aG (bn 4 (aw (ac 4) (am (fB1 v9 (aa (ac 7) ag))) au)) (aG (bn 8 (df (aa (aj ax 2 (aa (ac 4) (aa (fC (.str "made")) ag))) (aa (aj ax 2 (aa (aw (ac 4) (am (fC (.int 1))) au) (aa (fC (.str "used")) ag))) ag)))) (aG (bZ (bOr (fB (f2 neX (fB1 bA (aa (ac 4) ag)) (fC (.int 2)))) (bOr (fB (f2 inX (f1 gA (fC (.int 1))) (ac 8))) (fB (f2 eqX (ac 5) (f1 gA (fC (.int 1))))))) (bb (fC .non)) (fun ρ=>some (.nx ρ))) (aG (bn 9 (df (aa (f2 ixD (ac 2) (fC (.int 0))) (aa (f2 ixD (ac 2) (fC (.int 1))) (aa (aw (f2 ixD (ac 1) (fC (.int 1))) (am (f2 aH (fB1 bA (aa (ac 3) ag)) (fC (.int 1)))) au) (aa (f2 eqX (ac 3) (fC (.str "only"))) (aa (aw (f2 ixD (ac 1) (fC (.int 2))) (am (fC (.int 6))) au) (aa (ac 5) (aa (ac 6) ag))))))))) (bb (f2 aH (f2 aH (ac 9) (df (aa (fIf (fB (ac 7)) (fC (.str "near")) (fC (.str "any"))) ag))) (ac 8))))))))))))
theorem Dl (e:Option Int):eqX (eO e) (.int (-1))=bo (h_ (e=some (-1))):=by
 cases e with
 | none=>kernel_rfl
 | some i =>
  show some (Rs.ok (Dv.bl (i == -1)))=_;congr 3;rw [Fv];simp
theorem sP {X P S:Dv} {w a b p1 p2:Str} {q:Str} {qs:List Str} (hq:∀ z∈q :: qs,Tx z) (h1:ixD S (.int 0)=some (.ok (.str a))) (h2:ixD S (.int 1)=some (.ok (.str b))) (h3:ixD P (.int 1)=some (.ok (.str p1))) (h4:ixD P (.int 2)=some (.ok (.str p2))) (hw:w.length≤90000) (hp1:p1.length≤90000) (hp2:p2.length≤90000) :
 AW [some X,some P,some S,some (.str w),some (.lst ((q :: qs).map Dv.str)),none,none,none,none,none]=some (.rt (if okT (eI q qs)=b_ then enc ⟨a,b,rst p1 w,seq w (a_ "only"),FP p2 (some 6) none,(eI q qs).e,(eI q qs).s,nR (eI q qs).n,lm (eI q qs).r (a_ "made"),lm ((eI q qs).r.drop 1) (a_ "used")⟩ else .non)):=by
 obtain ⟨e,he⟩:∃ e:Option Int,e=if unt q=b_ then some (lm (q :: qs) (a_ "until")) else none:=⟨_,rfl⟩;obtain ⟨r1,hr1⟩:∃ r,r=dr1 (q :: qs) (unt q):=⟨_,rfl⟩;obtain ⟨s,hs⟩:∃ s,s=hd1 r1 (a_ "safe"):=⟨_,rfl⟩;obtain ⟨r2,hr2⟩:∃ r,r=dr1 r1 s:=⟨_,rfl⟩;obtain ⟨n,hn⟩:∃ s,s=hd1 r2 (a_ "near"):=⟨_,rfl⟩;obtain ⟨r3,hr3⟩:∃ r,r=dr1 r2 n:=⟨_,rfl⟩;have ht:eI q qs=⟨e,s,n,r3⟩:=by
  rw [hr3,hn,hr2,hs,hr1,he];rfl
 rw [ht];have x1:∀ z∈r1,Tx z:=by rw [hr1]; exact iP hq
 have x2:∀ z∈r2,Tx z:=by rw [hr2]; exact iP x1
 have x3:∀ z∈r3,Tx z:=by rw [hr3]; exact iP x2
 unfold AW;rw [ao (aB (ρ':=[some X,some P,some S,some (.str w),some (.lst ((q :: qs).map Dv.str)),some .non,none,none,none,none]) (d:=.non) rfl rfl)];have cU:fB (fM (kU uk) (f2 ixD (ac 4) (fC (.int 0))) (aa (fC (.str "until ")) ag)) [some X,some P,some S,some (.str w),some (.lst ((q :: qs).map Dv.str)),some .non,none,none,none,none]=some (.ok (unt q)):=aU ((fM_of (x:=q) ((aq (x:=.lst ((q :: qs).map Dv.str)) (y:=.int 0) rfl rfl).trans rfl) (ae (x:=.str "until ") rfl ai)).trans rfl);have sU:bZ (fB (fM (kU uk) (f2 ixD (ac 4) (fC (.int 0))) (aa (fC (.str "until ")) ag))) (aG (bn 5 (aj ax 2 (aa (ac 4) (aa (fC (.str "until")) ag)))) (bn 4 (aw (ac 4) (am (fC (.int 1))) au))) (fun ρ=>some (.nx ρ)) [some X,some P,some S,some (.str w),some (.lst ((q :: qs).map Dv.str)),some .non,none,none,none,none]=some (.nx [some X,some P,some S,some (.str w),some (.lst (r1.map Dv.str)),some (eO e),none,none,none,none]):=by
  cases hu:unt q with
  | false =>
   rw [hu] at cU hr1 he;rw [CZ cU,hr1,he];rfl
  | true =>
   rw [hu] at cU hr1 he;rw [sD cU,hr1,he,if_pos rfl];rw [ao (aB (ρ':=[some X,some P,some S,some (.str w),some (.lst ((q :: qs).map Dv.str)),some (.int (lm (q :: qs) (a_ "until"))),none,none,none,none]) (oO ax rfl rfl (wR (by decide) hq)) rfl)];exact aB ((bF (x:=.lst ((q :: qs).map Dv.str)) (l:=some 1) rfl rfl rfl).trans (sM (q :: qs) b_)) rfl
 rw [ao sU];have vS:f2 eqX (aw (ac 4) au (am (fC (.int 1)))) (bD (aa (fC (.str "safe")) ag)) [some X,some P,some S,some (.str w),some (.lst (r1.map Dv.str)),some (eO e),none,none,none,none]=some (.ok (.bl s)):=(aq ((bF (x:=.lst (r1.map Dv.str)) (h:=some 1) rfl rfl rfl).trans (AT r1)) (gv (d:=.str "safe") rfl)).trans (by rw [hs]; exact AV x1 (fun c hc=>by revert c hc; decide));rw [ao (aB (ρ':=[some X,some P,some S,some (.str w),some (.lst (r1.map Dv.str)),some (eO e),some (.bl s),none,none,none]) vS rfl)];rw [ao (aB (ρ':=[some X,some P,some S,some (.str w),some (.lst (r2.map Dv.str)),some (eO e),some (.bl s),none,none,none]) ((bF (x:=.lst (r1.map Dv.str)) (l:=some (if s=b_ then 1 else 0)) rfl (gJ ((aW (ae (x:=.bl s) rfl ai)).trans (qu s))) rfl).trans (by rw [hr2]; exact sM r1 s)) rfl)];have vN:f2 eqX (aw (ac 4) au (am (fC (.int 1)))) (bD (aa (fC (.str "near")) ag)) [some X,some P,some S,some (.str w),some (.lst (r2.map Dv.str)),some (eO e),some (.bl s),none,none,none]=some (.ok (.bl n)):=(aq ((bF (x:=.lst (r2.map Dv.str)) (h:=some 1) rfl rfl rfl).trans (AT r2)) (gv (d:=.str "near") rfl)).trans (by rw [hn]; exact AV x2 (fun c hc=>by revert c hc; decide));rw [ao (aB (ρ':=[some X,some P,some S,some (.str w),some (.lst (r2.map Dv.str)),some (eO e),some (.bl s),some (.bl n),none,none]) vN rfl)];rw [ao (aB (ρ':=[some X,some P,some S,some (.str w),some (.lst (r3.map Dv.str)),some (eO e),some (.bl s),some (.bl n),none,none]) ((bF (x:=.lst (r2.map Dv.str)) (l:=some (if n=b_ then 1 else 0)) rfl (gJ ((aW (ae (x:=.bl n) rfl ai)).trans (qu n))) rfl).trans (by rw [hr3]; exact sM r2 n)) rfl)];obtain ⟨md,hmd⟩:∃ i,i=lm r3 (a_ "made"):=⟨_,rfl⟩;obtain ⟨us,hus⟩:∃ i,i=lm (r3.drop 1) (a_ "used"):=⟨_,rfl⟩;have cR:aw (ac 4) (am (fC (.int 1))) au [some X,some P,some S,some (.str w),some (.lst (r3.map Dv.str)),some (eO e),some (.bl s),some (.bl n),none,none]=some (.ok (.lst ((r3.drop 1).map Dv.str))):=(bF (x:=.lst (r3.map Dv.str)) (l:=some 1) rfl rfl rfl).trans (sM r3 b_);have vM:df (aa (aj ax 2 (aa (ac 4) (aa (fC (.str "made")) ag))) (aa (aj ax 2 (aa (aw (ac 4) (am (fC (.int 1))) au) (aa (fC (.str "used")) ag))) ag)) [some X,some P,some S,some (.str w),some (.lst (r3.map Dv.str)),some (eO e),some (.bl s),some (.bl n),none,none]=some (.ok (.tup [.int md,.int us])):=gY (ae (oO ax rfl rfl (by rw [hmd]; exact wR (by decide) x3)) (ae (oO ax cR rfl (by rw [hus]; exact wR (by decide) (sO x3))) ai)) (by show 2≤100000; decide);rw [ao (aB (ρ':=[some X,some P,some S,some (.str w),some (.lst (r3.map Dv.str)),some (eO e),some (.bl s),some (.bl n),some (.tup [.int md,.int us]),none]) vM rfl)];have ng:∀ ρ:Ev,f1 gA (fC (.int 1)) ρ=some (.ok (.int (-1))):=fun ρ=>rfl;have c1:fB (f2 neX (fB1 bA (aa (ac 4) ag)) (fC (.int 2))) [some X,some P,some S,some (.str w),some (.lst (r3.map Dv.str)),some (eO e),some (.bl s),some (.bl n),some (.tup [.int md,.int us]),none]=some (.ok (!h_ (r3.length=2))):=aU ((aq (y:=.int 2) (lB rfl) rfl).trans (by
  show some (Rs.ok (Dv.bl (!((r3.length:Int) == 2))))=_;congr 4;rw [Fv,decide_eq_true_eq,beq_iff_eq];omega))
 have c2:fB (f2 inX (f1 gA (fC (.int 1))) (ac 8)) [some X,some P,some S,some (.str w),some (.lst (r3.map Dv.str)),some (eO e),some (.bl s),some (.bl n),some (.tup [.int md,.int us]),none]=some (.ok (h_ (md=-1) || h_ (us=-1))):=aU ((aq (y:=.tup [.int md,.int us]) (ng _) rfl).trans EK);have c3:fB (f2 eqX (ac 5) (f1 gA (fC (.int 1)))) [some X,some P,some S,some (.str w),some (.lst (r3.map Dv.str)),some (eO e),some (.bl s),some (.bl n),some (.tup [.int md,.int us]),none]=some (.ok (h_ (e=some (-1)))):=aU ((aq (x:=eO e) rfl (ng _)).trans (Dl e));rw [bI (d:=.non) (gg c1 (gg c2 c3)) (fun _=>rfl)];have eK:okT ⟨e,s,n,r3⟩=!(!h_ (r3.length=2) || ((h_ (md=-1) || h_ (us=-1)) || h_ (e=some (-1)))):=by
  show (h_ (r3.length=2) && (!h_ (lm r3 (a_ "made")=-1) && (!h_ (lm (r3.drop 1) (a_ "used")=-1) && !h_ (e=some (-1)))))=_;rw [← hmd,← hus];cases h_ (r3.length=2) <;> cases h_ (md=-1) <;> cases h_ (us=-1) <;> cases h_ (e=some (-1)) <;> rfl
 rw [eK];cases hb:(!h_ (r3.length=2) || ((h_ (md=-1) || h_ (us=-1)) || h_ (e=some (-1))))
 · rw [if_neg n_,Hq,if_pos rfl];show _=some (Fl.rt (enc ⟨a,b,rst p1 w,seq w (a_ "only"),FP p2 (some 6) none,e,s,nR n,lm r3 (a_ "made"),lm (r3.drop 1) (a_ "used")⟩));rw [← hmd,← hus];have g1:aw (f2 ixD (ac 1) (fC (.int 1))) (am (f2 aH (fB1 bA (aa (ac 3) ag)) (fC (.int 1)))) au [some X,some P,some S,some (.str w),some (.lst (r3.map Dv.str)),some (eO e),some (.bl s),some (.bl n),some (.tup [.int md,.int us]),none]=some (.ok (.str (rst p1 w))):=(bF (x:=.str p1) (l:=some ((w.length + 1:Nat):Int)) ((aq (x:=P) (y:=.int 1) rfl rfl).trans h3) (gJ ((aq (x:=.int (w.length:Int)) (y:=.int 1) ((aW (ae (x:=.str w) rfl ai)).trans (len_str (by omega))) rfl).trans rfl)) rfl).trans (by
    show (if p1.length≤100000 then _ else none)=_;rw [if_pos (by omega)];rfl)
   have g2:aw (f2 ixD (ac 1) (fC (.int 2))) (am (fC (.int 6))) au [some X,some P,some S,some (.str w),some (.lst (r3.map Dv.str)),some (eO e),some (.bl s),some (.bl n),some (.tup [.int md,.int us]),none]=some (.ok (.str (FP p2 (some 6) none))):=(bF (x:=.str p2) (l:=some 6) ((aq (x:=P) (y:=.int 2) rfl rfl).trans h4) rfl rfl).trans (by
    show (if p2.length≤100000 then _ else none)=_;rw [if_pos (by omega)])
   have vH:=gY (ae ((aq (ρ:=[some X,some P,some S,some (.str w),some (.lst (r3.map Dv.str)),some (eO e),some (.bl s),some (.bl n),some (.tup [.int md,.int us]),none]) (f:=ac 2) (h:=fC (.int 0)) (x:=S) (y:=.int 0) rfl rfl).trans h1) (ae ((aq (f:=ac 2) (h:=fC (.int 1)) (x:=S) (y:=.int 1) rfl rfl).trans h2) (ae g1 (ae (f:=f2 eqX (ac 3) (fC (.str "only"))) (x:=.bl (seq w (a_ "only"))) ((aq (x:=.str w) (y:=.str "only") rfl rfl).trans rfl) (ae g2 (ae (f:=ac 5) (x:=eO e) rfl (ae (f:=ac 6) (x:=.bl s) rfl ai))))))) (by show 7≤100000; decide);rw [ao (aB vH rfl)];have fi:fIf (fB (ac 7)) (fC (.str "near")) (fC (.str "any")) ([some X,some P,some S,some (.str w),some (.lst (r3.map Dv.str)),some (eO e),some (.bl s),some (.bl n),some (.tup [.int md,.int us]),none].set 9 (some (.tup [.str a,.str b,.str (rst p1 w),.bl (seq w (a_ "only")),.str (FP p2 (some 6) none),eO e,.bl s])))=some (.ok (.str (nR n))):=by
    have c:fB (ac 7) ([some X,some P,some S,some (.str w),some (.lst (r3.map Dv.str)),some (eO e),some (.bl s),some (.bl n),some (.tup [.int md,.int us]),none].set 9 (some (.tup [.str a,.str b,.str (rst p1 w),.bl (seq w (a_ "only")),.str (FP p2 (some 6) none),eO e,.bl s])))=some (.ok n):=rfl;unfold fIf;rw [c];cases n <;> rfl
   exact aV ((aq ((aq (x:=.tup [.str a,.str b,.str (rst p1 w),.bl (seq w (a_ "only")),.str (FP p2 (some 6) none),eO e,.bl s]) rfl (gY (ae fi ai) (by show 1≤100000; decide))).trans rfl) (y:=.tup [.int md,.int us]) rfl).trans rfl)
 · rw [if_pos rfl,Gw,if_neg n_]
end PT
namespace PT
open PySem PySem.Spec PyProof.Rows L2 FD PySem.Builtin.Str
theorem qw {x p0:Str} {ps:List Str} (hx:Tx x) (e:u_ x ds2=p0 :: ps):bu [.str x]=some (.ok (AS (p0 :: ps))):=by
 have hps:∀ q∈p0 :: ps,Tx q:=fun q hq=>by
  have:=db (x:=x) (y:=ds2) (p:=q) (by rw [e]; exact hq);have:=hx.l;exact ⟨by omega,fun c hc=>hx.s c (fQ (y:=ds2) (by rw [e]; exact hq) hc)⟩
 have hp:=hps p0 g_;refine bi ?_;show cO [some (.str x),none,none,none,none,none,none,none,none,none]=_;obtain ⟨P,hP⟩:∃ P,P=Dv.lst ((p0 :: ps).map Dv.str):=⟨_,rfl⟩;obtain ⟨S,hS⟩:∃ S,S=Dv.lst ((u_ p0 (a_ "=")).map Dv.str):=⟨_,rfl⟩;have s1:fM bc (ac 0) (aa (fC (.str "; ")) ag) [some (.str x),none,none,none,none,none,none,none,none,none]=some (.ok P):=(fM_of (x:=x) rfl (ae (x:=.str ds2) rfl ai)).trans (by rw [gi hx.l,e,hP]);have s2:fM bc (f2 ixD (ac 1) (fC (.int 0))) (aa (fC (.str "=")) ag) [some (.str x),some P,none,none,none,none,none,none,none,none]=some (.ok S):=(fM_of (x:=p0) ((aq (x:=P) (y:=.int 0) rfl rfl).trans (by rw [hP]; rfl)) (ae (x:=.str "=") rfl ai)).trans (by rw [et hp.l (by decide),hS]);unfold cO;rw [ao (aB (ρ':=[some (.str x),some P,none,none,none,none,none,none,none,none]) s1 rfl),ao (aB (ρ':=[some (.str x),some P,some S,none,none,none,none,none,none,none]) s2 rfl)];have cL:fB (f2 ltX (fB1 bA (aa (ac 1) ag)) (fC (.int 5))) [some (.str x),some P,some S,none,none,none,none,none,none,none]=some (.ok (h_ ((p0 :: ps).length < 5))):=aU ((aq (y:=.int 5) (lB (l:=p0 :: ps) (by rw [hP]; rfl)) rfl).trans (by
  show some (Rs.ok (Dv.bl (h_ (((p0 :: ps).length:Int) < 5))))=_;congr 3;rw [decide_eq_decide];omega))
 have cS:fB (f2 neX (fB1 bA (aa (ac 2) ag)) (fC (.int 2))) [some (.str x),some P,some S,none,none,none,none,none,none,none]=some (.ok (!h_ ((u_ p0 (a_ "=")).length=2))):=aU ((aq (y:=.int 2) (lB (l:=u_ p0 (a_ "=")) (by rw [hS]; rfl)) rfl).trans (by
  show some (Rs.ok (Dv.bl (!(((u_ p0 (a_ "=")).length:Int) == 2))))=_;congr 4;rw [Fv,decide_eq_true_eq,beq_iff_eq];omega))
 by_cases h5:(p0 :: ps).length < 5
 · rw [decide_eq_true h5] at cL;rw [bI (d:=.non) (rE cL) (fun _=>rfl),if_pos rfl]
   match ps,h5 with
   | [],_=>rfl
   | [_],_=>rfl
   | [_,_],_=>rfl
   | [_,_,_],_=>rfl
   | _ :: _ :: _ :: _ :: _,h=>simp at h; omega
 · match ps,h5 with
   | [],h=>simp at h
   | [_],h=>simp at h
   | [_,_],h=>simp at h
   | [_,_,_],h=>simp at h
   | p1 :: p2 :: q :: q' :: qs,h5 =>
    rw [decide_eq_false h5] at cL;have hp1:=hps p1 (by simp);have hp2:=hps p2 (by simp);have hq:∀ z∈q :: q' :: qs,Tx z:=fun z hz=>hps z (f_ _ (f_ _ (f_ _ hz)));have i1:ixD P (.int 1)=some (.ok (.str p1)):=by rw [hP]; rfl
    have i2:ixD P (.int 2)=some (.ok (.str p2)):=by rw [hP]; rfl
    have cU:fB (fM (kU uk) (f2 ixD (ac 1) (fC (.int 2))) (aa (fC (.str "under ")) ag)) [some (.str x),some P,some S,none,none,none,none,none,none,none]=some (.ok (uk p2 (a_ "under "))):=aU ((fM_of (x:=p2) ((aq (x:=P) (y:=.int 2) rfl rfl).trans i2) (ae (x:=.str "under ") rfl ai)).trans rfl);rw [bI (d:=.non) (gg cL (gg cS (bS cU))) (fun _=>rfl),K6];have eA:(!h_ ((u_ p0 (a_ "=")).length=2) || !uk p2 (a_ "under "))=!okA p0 p2:=by
     unfold okA;cases h_ ((u_ p0 (a_ "=")).length=2) <;> cases uk p2 (a_ "under ") <;> rfl
    rw [eA];show _=some (Fl.rt (if okA p0 p2=b_ then (if okW p1=b_ then (if okT (eI q (q' :: qs))=b_ then enc (xn p0 p1 p2 (eI q (q' :: qs))) else .non) else .non) else .non));cases hA:okA p0 p2 with
    | false=>rfl
    | true =>
     rw [Gw,if_neg n_,if_pos rfl];obtain ⟨y,ys,ew⟩:=cG p1 (a_ " ");have hy:y=wd p1:=by unfold wd; rw [ew]; rfl
     have yl:y.length≤90000:=by
      have:=db (x:=p1) (y:=a_ " ") (p:=y) (by rw [ew]; exact g_);have:=hp1.l;omega
     have vW:f2 ixD (fM bc (f2 ixD (ac 1) (fC (.int 1))) (aa (fC (.str " ")) ag)) (fC (.int 0)) [some (.str x),some P,some S,none,none,none,none,none,none,none]=some (.ok (.str y)):=(aq (y:=.int 0) ((fM_of (x:=p1) ((aq (x:=P) (y:=.int 1) rfl rfl).trans i1) (ae (x:=.str " ") rfl ai)).trans (et hp1.l (by decide))) rfl).trans (wS ew);rw [ao (aB (ρ':=[some (.str x),some P,some S,some (.str y),none,none,none,none,none,none]) vW rfl)];have cW1:fB (f2 fI (ac 3) (df (aa (fC (.str "only")) (aa (fC (.str "for")) ag)))) [some (.str x),some P,some S,some (.str y),none,none,none,none,none,none]=some (.ok (!(seq y (a_ "only") || seq y (a_ "for")))):=aU ((aq (x:=.str y) (y:=.tup [.str "only",.str "for"]) rfl (gY (ae (x:=.str "only") rfl (ae (x:=.str "for") rfl ai)) (by show 2≤100000; decide))).trans (wT y));have cW2:fB (f2 fI (fC (.str " ")) (f2 ixD (ac 1) (fC (.int 1)))) [some (.str x),some P,some S,some (.str y),none,none,none,none,none,none]=some (.ok (!h_ (32∈p1.cps.toList))):=aU ((aq (x:=.str " ") rfl ((aq (x:=P) (y:=.int 1) rfl rfl).trans i1)).trans (qv p1));rw [bI (d:=.non) (gg cW1 cW2) (fun _=>rfl)];have eW:(!(seq y (a_ "only") || seq y (a_ "for")) || !h_ (32∈p1.cps.toList))=!okW p1:=by
      unfold okW;rw [← hy];cases seq y (a_ "only") <;> cases seq y (a_ "for") <;> cases h_ (32∈p1.cps.toList) <;> rfl
     rw [eW];cases hW:okW p1 with
     | false=>rfl
     | true =>
      rw [Gw,if_neg n_,if_pos rfl];have vR:aw (ac 1) (am (fC (.int 3))) au [some (.str x),some P,some S,some (.str y),none,none,none,none,none,none]=some (.ok (.lst ((q :: q' :: qs).map Dv.str))):=(bF (x:=P) (l:=some 3) rfl rfl rfl).trans (by
       rw [hP];show some (Rs.ok (Dv.lst (fv ((p0 :: p1 :: p2 :: q :: q' :: qs).map Dv.str) (some 3) none)))=_;rw [show (3:Int)=((3:Nat):Int) by rfl,im _ 3 (by simp)];rfl)
      rw [ao (aB (ρ':=[some (.str x),some P,some S,some (.str y),some (.lst ((q :: q' :: qs).map Dv.str)),none,none,none,none,none]) vR rfl)];have h2:(u_ p0 (a_ "=")).length=2:=by
       unfold okA at hA;rw [i_,decide_eq_true_eq] at hA;exact hA.1
      have eS:u_ p0 (a_ "=")=[sd0 p0,sd1 p0]:=by
       unfold sd0 sd1
       match u_ p0 (a_ "="),h2 with
       | [a,b],_=>rfl
      have:=sP (X:=.str x) (P:=P) (S:=S) (w:=y) (a:=sd0 p0) (b:=sd1 p0) hq (by rw [hS,eS]; rfl) (by rw [hS,eS]; rfl) i1 i2 yl hp1.l hp2.l;refine this.trans ?_;rw [hy];rfl
end PT
namespace PT
open PySem PySem.Spec PyProof.Rows L2 FD PySem.Builtin.Str
theorem sQ {x p:Str} {r:List Str} {c:Nat} (e:u_ x ⟨#[c]⟩=p :: r) (hc:c∈x.cps.toList):∃ b,x.cps.toList=p.cps.toList ++ c :: b:=by
 have h:=aT x ⟨#[c]⟩;have hf:c ∉ p.cps.toList:=La x c p (by rw [e]; exact g_);rw [e] at h;have h2:x.cps.toList=p.cps.toList ++ r.flatMap fun p=>[c] ++ p.cps.toList:=by
  rw [← eG ⟨#[c]⟩ p r,h]
 cases r with
 | nil =>
  rw [h2] at hc;simp at hc;exact absurd hc (by simpa using hf)
 | cons q r =>
  refine ⟨q.cps.toList ++ r.flatMap fun p=>[c] ++ p.cps.toList,?_⟩;rw [h2,Ie];simp
theorem DZ:a_ "="=⟨#[61]⟩:=by kernel_rfl
theorem mE {p0 p2:Str} (h:okA p0 p2=b_):p0=Tz (sd0 p0) (sd1 p0)∧p2=a_ "under " ++ FP p2 (some 6) none:=by
 unfold okA at h;rw [i_,decide_eq_true_eq] at h;obtain ⟨h1,h2⟩:=h;constructor
 · refine cZ ?_;rw [dJ];unfold sd0 sd1;rw [DZ] at h1 ⊢;rcases spl p0 61 with ⟨_,e⟩ | ⟨a,b,e,_,⟨_,es⟩ | ⟨_,h3⟩⟩
   · rw [e] at h1;simp at h1
   · rw [es,e];rfl
   · omega
 · obtain ⟨b,e⟩:=(bY _ _).mp h2;have:(FP p2 (some ((6:Nat):Int)) none).cps.toList=b:=by
    rw [eH,e];exact Ih (l₁:=(a_ "under ").cps.toList)
   refine cZ ?_;rw [aL,show (some (6:Int))=some ((6:Nat):Int) by rfl,this,e]
theorem wU {p1:Str} (h:okW p1=b_):p1=(if seq (wd p1) (a_ "only") then a_ "only " else a_ "for ") ++ rst p1 (wd p1):=by
 unfold okW at h;rw [i_,decide_eq_true_eq] at h;obtain ⟨h1,h2⟩:=h;have st:uk p1 (wd p1 ++ a_ " ")=b_:=by
  obtain ⟨y,ys,ew⟩:=cG p1 (a_ " ");have hy:wd p1=y:=by unfold wd; rw [ew]; rfl
  rw [iA] at ew;obtain ⟨b,e⟩:=sQ ew h2;refine (bY _ _).mpr ⟨b,?_⟩;rw [hy,mC,e];simp
 have e:=gk st;cases q:seq (wd p1) (a_ "only")
 · rw [q,K6] at h1;have hw:=iz h1;rw [if_neg n_];have:a_ "for "=wd p1 ++ a_ " ":=by rw [hw]; kernel_rfl
   rw [this];exact e
 · have hw:=iz q;rw [if_pos rfl];have:a_ "only "=wd p1 ++ a_ " ":=by rw [hw]; kernel_rfl
   rw [this];exact e
def rl (e:Option Int) (s n:Bool) (y z:Str):List Str:=(oI "until " e).toList ++ ((oB "safe" s).toList ++ ((oB "near" n).toList ++ [y,z]))
theorem qz {l:List Str} {w:String} {b:Bool} (h:b=hd1 l (a_ w)):l=(oB w b).toList ++ dr1 l b:=by
 cases b
 · rfl
 · cases l with
   | nil=>cases h
   | cons x l =>
    have:seq x (a_ w)=b_:=h.symm;rw [iz this];rfl
theorem wV {q:Str} {qs:List Str} (hq:∀ z∈q :: qs,Tx z) (h:okT (eI q qs)=b_):∃ md us,lm (eI q qs).r (a_ "made")=md∧lm ((eI q qs).r.drop 1) (a_ "used")=us∧0≤md∧md≤9999∧0≤us∧us≤9999∧(∀ i,(eI q qs).e=some i→0≤i∧i≤9999)∧q :: qs=rl (eI q qs).e (eI q qs).s (eI q qs).n (a_ "made " ++ is md) (a_ "used " ++ is us):=by
 obtain ⟨e,he⟩:∃ e:Option Int,e=if unt q=b_ then some (lm (q :: qs) (a_ "until")) else none:=⟨_,rfl⟩;obtain ⟨r1,hr1⟩:∃ r,r=dr1 (q :: qs) (unt q):=⟨_,rfl⟩;obtain ⟨s,hs⟩:∃ s,s=hd1 r1 (a_ "safe"):=⟨_,rfl⟩;obtain ⟨r2,hr2⟩:∃ r,r=dr1 r1 s:=⟨_,rfl⟩;obtain ⟨n,hn⟩:∃ s,s=hd1 r2 (a_ "near"):=⟨_,rfl⟩;obtain ⟨r3,hr3⟩:∃ r,r=dr1 r2 n:=⟨_,rfl⟩;have ht:eI q qs=⟨e,s,n,r3⟩:=by
  rw [hr3,hn,hr2,hs,hr1,he];rfl
 rw [ht] at h ⊢;have x1:∀ z∈r1,Tx z:=by rw [hr1]; exact iP hq
 have x2:∀ z∈r2,Tx z:=by rw [hr2]; exact iP x1
 have x3:∀ z∈r3,Tx z:=by rw [hr3]; exact iP x2
 unfold okT at h;simp only [i_,decide_eq_true_eq,Jv,decide_eq_false_iff_not] at h;obtain ⟨hl,h1,h2,h3⟩:=h;obtain ⟨y,z,hyz⟩:∃ y z,r3=[y,z]:=by
  match r3,hl with
  | [y,z],_=>exact ⟨y,z,rfl⟩
 rw [hyz] at h1 h2 x3 ⊢;obtain ⟨md,m0,m1,m2,m3⟩:=mD (x3 y (by simp)) h1;obtain ⟨us,u0,u1,u2,u3⟩:=mD (p:=z) (ps:=[]) (x3 z (by simp)) h2;refine ⟨md,us,m0,u0,m1,m2,u1,u2,?_,?_⟩
 · intro i hi;have hi':e=some i:=hi;rw [hi'] at he h3;cases hu:unt q with
   | false=>rw [hu] at he; cases he
   | true =>
    rw [hu,if_pos rfl] at he;cases he;obtain ⟨j,j0,j1,j2,_⟩:=mD (p:=q) (ps:=qs) (W:=a_ "until") (hq q g_) (fun z=>h3 (by rw [z]));rw [j0];exact ⟨j1,j2⟩
 · show q :: qs=rl e s n _ _;have t3:r2=(oB "near" n).toList ++ [y,z]:=by rw [← hyz,hr3]; exact qz hn
   have t2:r1=(oB "safe" s).toList ++ r2:=by rw [hr2]; exact qz hs
   have t1:q :: qs=(oI "until " e).toList ++ r1:=by
    cases hu:unt q with
    | false=>rw [hu] at he hr1; rw [he,hr1]; rfl
    | true =>
     rw [hu,if_pos rfl] at he;rw [hu] at hr1;obtain ⟨j,j0,j1,j2,j3⟩:=mD (p:=q) (ps:=qs) (W:=a_ "until") (hq q g_) (fun z=>h3 (by rw [he,z]));rw [he,j0,hr1];show q :: qs=(a_ "until " ++ is j) :: qs;rw [j3];rfl
   have e8:a_ "made "=a_ "made" ++ a_ " ":=by kernel_rfl
   have e9:a_ "used "=a_ "used" ++ a_ " ":=by kernel_rfl
   unfold rl;rw [e8,e9,← m3,← u3,t1,t2,t3]
theorem Dm (b:Bool):dR (nR b)=b:=by cases b <;> kernel_rfl
theorem sR {p0:Str} {ps:List Str} (hp:∀ z∈p0 :: ps,Tx z):AS (p0 :: ps)=.non∨∃ n:Note,AS (p0 :: ps)=enc n∧(∃ r,RL r∧enc n=.tup (rw' r))∧p0 :: ps=Tz n.nm n.w :: PLn n:=by
 match ps,hp with
 | [],_=>exact .inl rfl
 | [_],_=>exact .inl rfl
 | [_,_],_=>exact .inl rfl
 | [_,_,_],_=>exact .inl rfl
 | p1 :: p2 :: q :: q' :: qs,hp =>
  have hq:∀ z∈q :: q' :: qs,Tx z:=fun z hz=>hp z (f_ _ (f_ _ (f_ _ hz)));cases hA:okA p0 p2 with
  | false=>left; show (if okA p0 p2=b_ then _ else Dv.non)=_; rw [hA]; rfl
  | true =>
   cases hW:okW p1 with
   | false=>left; show (if okA p0 p2=b_ then (if okW p1=b_ then _ else Dv.non) else Dv.non)=_; rw [hA,hW]; rfl
   | true =>
    cases hT:okT (eI q (q' :: qs)) with
    | false=>left; show (if okA p0 p2=b_ then (if okW p1=b_ then (if okT (eI q (q' :: qs))=b_ then _ else Dv.non) else Dv.non) else Dv.non)=_; rw [hA,hW,hT]; rfl
    | true =>
     right;refine ⟨xn p0 p1 p2 (eI q (q' :: qs)),?_,?_,?_⟩
     · show (if okA p0 p2=b_ then (if okW p1=b_ then (if okT (eI q (q' :: qs))=b_ then _ else Dv.non) else Dv.non) else Dv.non)=_;rw [hA,hW,hT];rfl
     · refine ⟨toR (xn p0 p1 p2 (eI q (q' :: qs))),?_,rfl⟩;have hl0:=(hp p0 g_).l;have hl1:=(hp p1 (by simp)).l;have hl2:=(hp p2 (by simp)).l;have e0:=(mE hA).1;refine ⟨?_,?_,fun h hh=>?_,fun h hh=>?_,?_⟩
       · show (sd0 p0).length≤90000;rw [e0] at hl0;unfold Tz at hl0;rw [cx,cx] at hl0;omega
       · show (sd1 p0).length≤90000;rw [e0] at hl0;unfold Tz at hl0;rw [cx,cx] at hl0;omega
       · cases (show some (rst p1 (wd p1))=some h from hh);have:=lA p1 (wd p1);omega
       · cases (show some (FP p2 (some 6) none)=some h from hh);have:=Hs p2 (some 6) none;omega
       · show nR _=_∨nR _=_;unfold nR;split
         · exact .inr rfl
         · exact .inl rfl
     · obtain ⟨md,us,e1,e2,_,_,_,_,_,e3⟩:=wV hq hT;have f1:=mE hA;have f2:=wU hW;unfold PLn P1 P2 P8 P9;show p0 :: p1 :: p2 :: q :: q' :: qs=Tz (sd0 p0) (sd1 p0) :: ((if seq (wd p1) (a_ "only") then a_ "only " else a_ "for ") ++ rst p1 (wd p1)) :: (a_ "under " ++ FP p2 (some 6) none) :: rl (eI q (q' :: qs)).e (eI q (q' :: qs)).s (dR (nR (eI q (q' :: qs)).n)) (a_ "made " ++ is (lm (eI q (q' :: qs)).r (a_ "made"))) (a_ "used " ++ is (lm ((eI q (q' :: qs)).r.drop 1) (a_ "used")));rw [Dm,e1,e2,← e3,← f1.1,← f1.2,← f2]
end PT
namespace PT
open PySem PySem.Spec PyProof.Rows L2 FD PySem.Builtin.Str
theorem qA {x w:Str} {a b:Nat} {r s:List Nat} (hx:x.cps.toList=a :: r) (hw:w.cps.toList=b :: s) (h:a≠b):uk x w=c_:=by
 cases q:uk x w
 · rfl
 · obtain ⟨z,e⟩:=(bY _ _).mp q;rw [hx,hw] at e;simp at e;exact absurd e.1 h
theorem wW (x:Str):∃ r,(a_ "made " ++ x).cps.toList=109 :: r:=⟨_,by rw [aL,show (a_ "made ").cps.toList=[109,97,100,101,32] by kernel_rfl]; rfl⟩
theorem sV:(a_ "until ").cps.toList=[117,110,116,105,108,32]:=by kernel_rfl
theorem AX {w:String} {x:Str} (h:32∈(a_ w).cps.toList):32∈(a_ w ++ x).cps.toList:=by
 rw [aL];exact ET _ h
theorem Do {e:Option Int} {s n:Bool} {md us:Int} (he:∀ i,e=some i→0≤i∧i≤9999):∃ q q' qs,rl e s n (a_ "made " ++ is md) (a_ "used " ++ is us)=q :: q' :: qs∧eI q (q' :: qs)=⟨e,s,n,[a_ "made " ++ is md,a_ "used " ++ is us]⟩:=by
 obtain ⟨y,hy⟩:∃ y,y=a_ "made " ++ is md:=⟨_,rfl⟩;obtain ⟨z,hz⟩:∃ z,z=a_ "used " ++ is us:=⟨_,rfl⟩;have u0:unt y=c_:=by
  obtain ⟨r,h⟩:=wW (is md);rw [hy];exact qA h sV (by decide)
 have u1:unt (a_ "safe")=c_:=by kernel_rfl
 have u2:unt (a_ "near")=c_:=by kernel_rfl
 have y1:seq y (a_ "safe")=c_:=by rw [hy]; exact sL (AX (by decide)) (by decide)
 have y2:seq y (a_ "near")=c_:=by rw [hy]; exact sL (AX (by decide)) (by decide)
 have n1:seq (a_ "near") (a_ "safe")=c_:=by kernel_rfl
 have n2:seq (a_ "safe") (a_ "safe")=b_:=by kernel_rfl
 have n3:seq (a_ "near") (a_ "near")=b_:=by kernel_rfl
 rw [← hy,← hz];have key:∀ (q:Str) (qs:List Str) (e:Option Int) (r1:List Str),e=(if unt q=b_ then some (lm (q :: qs) (a_ "until")) else none)→dr1 (q :: qs) (unt q)=r1→∀ s n:Bool,r1=(oB "safe" s).toList ++ ((oB "near" n).toList ++ [y,z])→eI q qs=⟨e,s,n,[y,z]⟩:=by
  intro q qs e r1 h1 h2 s n h3;have t:eI q qs=⟨e,hd1 r1 (a_ "safe"),hd1 (dr1 r1 (hd1 r1 (a_ "safe"))) (a_ "near"),dr1 (dr1 r1 (hd1 r1 (a_ "safe"))) (hd1 (dr1 r1 (hd1 r1 (a_ "safe"))) (a_ "near"))⟩:=by
   rw [h1,← h2];rfl
  rw [t,h3];cases s <;> cases n <;> simp [oB,hd1,dr1,y1,y2,n1,n2,n3]
 cases e with
 | none =>
  cases s <;> cases n
  · exact ⟨y,z,[],rfl,key y [z] none [y,z] (by rw [u0]; rfl) (by rw [u0]; rfl) c_ c_ rfl⟩
  · exact ⟨a_ "near",y,[z],rfl,key _ [y,z] none [a_ "near",y,z] (by rw [u2]; rfl) (by rw [u2]; rfl) c_ b_ rfl⟩
  · exact ⟨a_ "safe",y,[z],rfl,key _ [y,z] none [a_ "safe",y,z] (by rw [u1]; rfl) (by rw [u1]; rfl) b_ c_ rfl⟩
  · exact ⟨a_ "safe",a_ "near",[y,z],rfl,key _ [a_ "near",y,z] none [a_ "safe",a_ "near",y,z] (by rw [u1]; rfl) (by rw [u1]; rfl) b_ b_ rfl⟩
 | some i =>
  have hi:=he i rfl;have eu:a_ "until " ++ is i=a_ "until" ++ a_ " " ++ is i:=c4 (b:="until") (is i) (by kernel_rfl);have uu:unt (a_ "until " ++ is i)=b_:=(bY _ _).mpr ⟨(is i).cps.toList,aL _ _⟩;have lmm:∀ ps,lm ((a_ "until " ++ is i) :: ps) (a_ "until")=i:=fun ps=>by rw [eu]; exact qt hi.1 hi.2 _ ps
  obtain ⟨a,b,hab⟩:∃ a b,(oB "safe" s).toList ++ ((oB "near" n).toList ++ [y,z])=a :: b:=by
   cases s <;> cases n <;> exact ⟨_,_,rfl⟩
  refine ⟨a_ "until " ++ is i,a,b,?_,?_⟩
  · show (a_ "until " ++ is i) :: ((oB "safe" s).toList ++ ((oB "near" n).toList ++ [y,z]))=_;rw [hab]
  · exact key _ (a :: b) (some i) (a :: b) (by rw [uu,lmm]; rfl) (by rw [uu]; rfl) s n hab.symm
section
variable {n:Note}
theorem AY (g:Good n):okA (Tz n.nm n.w) (P2 n)=b_∧sd0 (Tz n.nm n.w)=n.nm∧sd1 (Tz n.nm n.w)=n.w∧FP (P2 n) (some 6) none=n.path:=by
 have n1:61 ∉ n.nm.cps.toList:=Az g (by decide);have n2:61 ∉ n.w.cps.toList:=Df g (by decide);have es:u_ (Tz n.nm n.w) (a_ "=")=[n.nm,n.w]:=by
  rw [DZ];rcases spl (Tz n.nm n.w) 61 with ⟨h,_⟩ | ⟨a,b,e,ha,⟨_,es⟩ | ⟨hb,_⟩⟩
  · exact absurd (by rw [dJ]; simp) h
  · rw [dJ] at e;obtain ⟨r1,r2⟩:=dI e n1 ha;rw [es,← r1,← r2]
  · rw [dJ] at e;obtain ⟨r1,r2⟩:=dI e n1 ha;exact absurd (r2 ▸ hb) n2
 have st:uk (P2 n) (a_ "under ")=b_:=(bY _ _).mpr ⟨n.path.cps.toList,aL _ _⟩;refine ⟨?_,?_,?_,?_⟩
 · unfold okA;rw [es,st];rfl
 · unfold sd0; rw [es]; rfl
 · unfold sd1; rw [es]; rfl
 · refine cZ ?_;rw [show (some (6:Int))=some ((6:Nat):Int) by rfl,eH];unfold P2;rw [aL];exact Ih (l₁:=(a_ "under ").cps.toList)
theorem AZ (g:Good n):okW (P1 n)=b_∧seq (wd (P1 n)) (a_ "only")=n.ex∧rst (P1 n) (wd (P1 n))=n.house:=by
 have n1:32 ∉ n.house.cps.toList:=De g (by decide);have gen:∀ w:Str,32 ∉ w.cps.toList→wd (w ++ a_ " " ++ n.house)=w:=fun w hw=>by
  have e0:(w ++ a_ " " ++ n.house).cps.toList=w.cps.toList ++ 32 :: n.house.cps.toList:=by
   rw [aL,mC];simp
  unfold wd;rw [iA];rcases spl (w ++ ⟨#[32]⟩ ++ n.house) 32 with ⟨h,_⟩ | ⟨a,b,e,ha,⟨_,es⟩ | ⟨hb,_⟩⟩
  · exact absurd (by rw [← iA,e0]; simp) h
  · rw [← iA,e0] at e;obtain ⟨r1,r2⟩:=dI e hw ha;rw [es];exact cZ r1.symm
  · rw [← iA,e0] at e;obtain ⟨r1,r2⟩:=dI e hw ha;exact absurd (r2 ▸ hb) n1
 have inn:∀ w:Str,32∈(w ++ a_ " " ++ n.house).cps.toList:=fun w=>by
  rw [aL,mC];simp
 have fin:∀ w:Str,32 ∉ w.cps.toList→(seq w (a_ "only") || seq w (a_ "for"))=b_→okW (w ++ a_ " " ++ n.house)=b_∧seq (wd (w ++ a_ " " ++ n.house)) (a_ "only")=seq w (a_ "only")∧rst (w ++ a_ " " ++ n.house) (wd (w ++ a_ " " ++ n.house))=n.house:=fun w hw h=>by
  unfold okW;rw [gen w hw,h];exact ⟨by simpa using inn w,rfl,(qr w n.house).1⟩
 unfold P1;cases n.ex
 · show okW (a_ "for " ++ n.house)=b_∧seq (wd (a_ "for " ++ n.house)) (a_ "only")=c_∧rst (a_ "for " ++ n.house) (wd (a_ "for " ++ n.house))=n.house;rw [c4 (b:="for") n.house (by kernel_rfl)];have:=fin (a_ "for") (by decide) (by kernel_rfl);exact ⟨this.1,this.2.1.trans (by kernel_rfl),this.2.2⟩
 · show okW (a_ "only " ++ n.house)=b_∧seq (wd (a_ "only " ++ n.house)) (a_ "only")=b_∧rst (a_ "only " ++ n.house) (wd (a_ "only " ++ n.house))=n.house;rw [c4 (b:="only") n.house (by kernel_rfl)];have:=fin (a_ "only") (by decide) (by kernel_rfl);exact ⟨this.1,this.2.1.trans (by kernel_rfl),this.2.2⟩
theorem wX (g:Good n):AS (Tz n.nm n.w :: PLn n)=enc n:=by
 have h0:=g.mk0; have h1:=g.mu; have h2:=g.us;obtain ⟨q,q',qs,e1,e2⟩:=Do (e:=n.ends) (s:=n.S) (n:=dR n.R) (md:=n.md) (us:=n.us) g.ends;obtain ⟨a1,a2,a3,a4⟩:=AY g;obtain ⟨w1,w2,w3⟩:=AZ g;have eP:Tz n.nm n.w :: PLn n=Tz n.nm n.w :: P1 n :: P2 n :: q :: q' :: qs:=by
  rw [← e1];rfl
 rw [eP];show (if okA (Tz n.nm n.w) (P2 n)=b_ then (if okW (P1 n)=b_ then (if okT (eI q (q' :: qs))=b_ then enc (xn (Tz n.nm n.w) (P1 n) (P2 n) (eI q (q' :: qs))) else .non) else .non) else .non)=_;rw [a1,w1,if_pos rfl,if_pos rfl,e2];have l8:∀ ps,lm ((a_ "made " ++ is n.md) :: ps) (a_ "made")=n.md:=fun ps=>by
  rw [c4 (b:="made") (is n.md) (by kernel_rfl)];exact qt h0 (by omega) _ ps
 have l9:∀ ps,lm ((a_ "used " ++ is n.us) :: ps) (a_ "used")=n.us:=fun ps=>by
  rw [c4 (b:="used") (is n.us) (by kernel_rfl)];exact qt (by omega) h2 _ ps
 have ok:okT ⟨n.ends,n.S,dR n.R,[a_ "made " ++ is n.md,a_ "used " ++ is n.us]⟩=b_:=by
  unfold okT;show (h_ (2=2) && (!h_ (lm [a_ "made " ++ is n.md,a_ "used " ++ is n.us] (a_ "made")=-1) && (!h_ (lm [a_ "used " ++ is n.us] (a_ "used")=-1) && !h_ (n.ends=some (-1)))))=b_;rw [l8,l9];have z1:¬ n.md=-1:=by omega
  have z2:¬ n.us=-1:=by omega
  have z3:¬ n.ends=some (-1):=fun z=>by have:=(g.ends _ z).1; omega
  simp [z1,z2,z3]
 rw [ok,if_pos rfl];have er:nR (dR n.R)=n.R:=by
  rcases g.R with h | h
  · rw [h]; kernel_rfl
  · rw [h]; kernel_rfl
 unfold xn;rw [a2,a3,a4,w2,w3];show enc ⟨n.nm,n.w,n.house,n.ex,n.path,n.ends,n.S,nR (dR n.R),lm [a_ "made " ++ is n.md,a_ "used " ++ is n.us] (a_ "made"),lm [a_ "used " ++ is n.us] (a_ "used")⟩=_;rw [l8,l9,er]
end
end PT
end G
namespace G
open PySem PySem.Spec PyProof.Rows L2 FD
def D1:List Str→List Nat
 | []=>[]
 | q :: r=>J [10] q.cps.toList (r.map fun s=>s.cps.toList)
theorem wY:∀ js:List Note,(TXT js).cps.toList=D1 (js.map Ln ++ [a_ ""])
 | []=>rfl
 | n :: js=>by
  have ih:=wY js;show (Ln n ++ nl ++ TXT js).cps.toList=_;rw [aL,aL,ih];have:∃ q r,js.map Ln ++ [a_ ""]=q :: r:=by cases js <;> exact ⟨_,_,rfl⟩
  obtain ⟨q,r,e⟩:=this;show _=D1 (Ln n :: (js.map Ln ++ [a_ ""]));rw [e];show (Ln n).cps.toList ++ nl.cps.toList ++ J [10] q.cps.toList (r.map fun s=>s.cps.toList)=(Ln n).cps.toList ++ ([10] ++ J [10] q.cps.toList (r.map fun s=>s.cps.toList));rw [show nl.cps.toList=[10] by kernel_rfl];simp
theorem kx {js:List Note} (hg:∀ n∈js,Good n):u_ (TXT js) (a_ "\n")=js.map Ln ++ [a_ ""]:=by
 have hj:=wY js;have:∃ q r,js.map Ln ++ [a_ ""]=q :: r:=by cases js <;> exact ⟨_,_,rfl⟩
 obtain ⟨q,r,e⟩:=this;have hm:∀ s∈js.map Ln ++ [a_ ""],10 ∉ s.cps.toList:=by
  intro s hs;rcases t_.mp hs with hs | hs
  · obtain ⟨n,hn,rfl⟩:=Fq.mp hs;exact Dg (hg n hn)
  · rw [Fc.mp hs];rw [show (a_ "").cps.toList=[] by kernel_rfl];simp
 rw [e] at hj hm ⊢;exact ig (c:=10) (rest:=[]) (by kernel_rfl) (by kernel_rfl) hm hj
theorem sW {α:Type} (l:List α) (x:α):fv (l ++ [x]) none (some (-1))=l:=by
 unfold fv HT.sIx;simp only [Ho];rw [if_pos (by omega)];have:((-1:Int) + ((l ++ [x]).length:Int)).toNat - 0=l.length:=by simp; omega
 rw [this,KB]
end G
namespace G
namespace PT
open PySem PySem.Spec PyProof.Rows L2 FD PySem.Builtin.Str
theorem nr (sep:Str) (l:List Str):glued sep l=Gy sep l:=rfl
def rdV (x:Str):Dv:=match bh [.str x] with
 | some (.ok d)=>d
 | _=>.non
def lwV (x:Str):Dv:=match bu [.str x] with
 | some (.ok d)=>d
 | _=>.non
theorem ux {x:Str} (hx:Tx x):bh [.str x]=some (.ok (rdV x))∧It (rdV x):=by
 obtain ⟨p,ps,e⟩:=cG x ds2;have h:=qp hx.l e;have z:rdV x=.tup (rw' (ps.foldl pu (r0 (wA p) (wZ p)))):=by unfold rdV; rw [h]
 rw [z];refine ⟨h,.inr ⟨_,?_,rfl⟩⟩;have hps:∀ q∈p :: ps,q.length≤90000:=fun q hq=>by
  have:=db (x:=x) (y:=ds2) (p:=q) (by rw [e]; exact hq);have:=hx.l;omega
 have:=ED p;have:=hps p g_;exact RL.all ⟨by show (wA p).length≤_; omega,by show (wZ p).length≤_; omega,fun h hh=>(by cases hh),fun h hh=>(by cases hh),.inl rfl⟩ fun q hq=>hps q (f_ _ hq)
theorem w6 {a b:Note} (h:enc a=enc b):a=b:=by
 cases a; cases b;unfold enc eO at h;simp only [Dv.tup.injEq,Hd,Dv.str.injEq,Dv.bl.injEq,Dv.int.injEq,and_true] at h;obtain ⟨rfl,rfl,rfl,rfl,rfl,h6,rfl,rfl,rfl,rfl⟩:=h;congr 1;split at h6 <;> split at h6 <;> first | rfl | cases h6 <;> rfl
theorem qB {x:Str} (hx:Tx x):bu [.str x]=some (.ok (lwV x))∧It (lwV x)∧∀ n,lwV x=enc n→x=Ln n:=by
 obtain ⟨p,ps,e⟩:=cG x ds2;have h:=qw hx e;have z:lwV x=AS (p :: ps):=by unfold lwV; rw [h]
 rw [z];have hps:∀ q∈p :: ps,Tx q:=fun q hq=>by
  have:=db (x:=x) (y:=ds2) (p:=q) (by rw [e]; exact hq);have:=hx.l;exact ⟨by omega,fun c hc=>hx.s c (fQ (y:=ds2) (by rw [e]; exact hq) hc)⟩
 rcases sR hps with h1 | ⟨n,h1,⟨r,hr,er⟩,h3⟩
 · rw [h1] at h ⊢;exact ⟨h,.inl rfl,fun n hn=>by unfold enc at hn; cases hn⟩
 · rw [h1] at h ⊢;refine ⟨h,.inr ⟨r,hr,er⟩,fun m hm=>?_⟩;rw [← w6 hm];have:=aT x ds2;rw [e,h3] at this;exact this.symm
theorem qC {n:Note} (g:Good n):rdV (Ln n)=enc n:=by
 unfold rdV;rw [wO g]
theorem nu {n:Note} (g:Good n):Tx (Ln n):=by
 refine ⟨by have:=mx g; omega,fun c hc=>?_⟩;unfold Ln at hc;rw [kv] at hc;have vI:∀ {i:Int},0≤i→i≤9999→∀ c∈(is i).cps.toList,c < 0x110000:=fun h0 h1 c hc=>by
  have:=allIn_mem (is_facts h0 h1).2.1 hc;rw [gH] at this;simp only [q_,Fi,or_false] at this;omega
 have vS:∀ w:String,((a_ w).cps.toList.all fun c=>h_ (c < 0x110000))=b_→∀ x:Str,Sg x→Sg (a_ w ++ x):=fun w hw x hx c hc=>by
  rw [aL] at hc;rcases t_.mp hc with h | h
  · have:=r_.mp hw c h;simpa using this
  · exact hx c h
 have vV:∀ {x:Str},Vs x.cps.toList→Sg x:=fun h c hc=>by
  have:=h c hc;omega
 have h0:=g.mk0; have h1:=g.mu; have h2:=g.us;rcases wL _ _ hc with h | h | ⟨q,hq,h⟩
 · rw [dJ] at h;rcases t_.mp h with h | h
   · exact vV g.vnm c h
   · rcases q_.mp h with rfl | h
     · omega
     · exact vV g.vw c h
 · rw [show (a_ "; ").cps.toList=[59,32] by kernel_rfl] at h;simp only [q_,Fi,or_false] at h;omega
 · obtain ⟨s,hs,rfl⟩:=Fq.mp hq;simp only [PLn,t_,q_,LJ,Fi,or_false] at hs;rcases hs with rfl | rfl | e | e | e | rfl | rfl
   · unfold P1 at h;cases hx:n.ex <;> rw [hx] at h
     · exact vS "for " (by kernel_rfl) _ (vV g.vh) c h
     · exact vS "only " (by kernel_rfl) _ (vV g.vh) c h
   · exact vS "under " (by kernel_rfl) _ (vV g.vp) c h
   · unfold oI at e;cases he:n.ends with
     | none=>rw [he] at e; cases e
     | some i =>
      rw [he] at e;cases e;have:=g.ends i he;exact vS "until " (by kernel_rfl) _ (vI this.1 this.2) c h
   · unfold oB at e;split at e
     · cases e;have:=r_.mp (show ((a_ "safe").cps.toList.all fun c=>h_ (c < 0x110000))=b_ by kernel_rfl) c h;simpa using this
     · cases e
   · unfold oB at e;split at e
     · cases e;have:=r_.mp (show ((a_ "near").cps.toList.all fun c=>h_ (c < 0x110000))=b_ by kernel_rfl) c h;simpa using this
     · cases e
   · exact vS "made " (by kernel_rfl) _ (vI h0 (by omega)) c h
   · exact vS "used " (by kernel_rfl) _ (vI (by omega) h2) c h
theorem A0 {n:Note} (g:Good n):lwV (Ln n)=enc n:=by
 unfold lwV;rw [qw (nu g) (gI g),wX g]
theorem qD {α:Type}:∀ {l:List α},l≠[]→∃ a b,l=a ++ [b]
 | [],h=>absurd rfl h
 | [x],_=>⟨[],x,rfl⟩
 | x :: y :: l,_=>by
  obtain ⟨a,b,e⟩:=qD (l:=y :: l) (by simp);exact ⟨x :: a,b,by rw [e]; rfl⟩
structure Cut (x:Str) (ls:List Str) (z:Str):Prop where
 e:u_ x (a_ "\n")=ls ++ [z]
 t:∀ l∈ls,Tx l
 n:ls.length≤90000
theorem Ba {x:Str} (hx:Tx x) (hl:x.length≤80000):∃ ls z,Cut x ls z:=by
 obtain ⟨p,r,e⟩:=cG x (a_ "\n");obtain ⟨ls,z,e2⟩:=qD (l:=u_ x (a_ "\n")) (by rw [e]; simp);refine ⟨ls,z,e2,fun l hl=>?_,?_⟩
 · have hm:l∈u_ x (a_ "\n"):=by rw [e2]; exact ET _ hl
   have:=db hm;have:=hx.l;exact ⟨by omega,fun c hc=>hx.s c (fQ hm hc)⟩
 · have:=ij (x:=x) (y:=a_ "\n") (by decide);rw [e2,z_] at this;simp at this;omega
def W (x:Str) (js:List Note):Prop:=Jar js∧x=TXT js
theorem qE {x:Str} {js:List Note} (h:W x js) {ls:List Str} {z:Str} (c:Cut x ls z):ls=js.map Ln∧z=a_ "":=by
 have e:=kx h.1.g;rw [← h.2,c.e] at e;have:=List.append_inj' e rfl;exact ⟨this.1,by simpa using this.2⟩
theorem w9 {x:Str} {ls:List Str} {js:List Note} (c:Cut x ls (a_ "")) (h:ls=js.map Ln):x=TXT js:=by
 refine cZ ?_;rw [wY,← h];have e:=aT x (a_ "\n");rw [c.e,nr] at e;obtain ⟨q,r,eq⟩:∃ q r,ls ++ [a_ ""]=q :: r:=by cases ls <;> exact ⟨_,_,rfl⟩
 rw [eq] at e ⊢;rw [← e,kv,show (a_ "\n").cps.toList=[10] by kernel_rfl];rfl
end PT
namespace PT
open PySem PySem.Spec PyProof.Rows L2 FD PySem.Builtin.Str
theorem jx {js:List Note} (J:Jar js):aO [ej js]=some (.ok (.str (TXT js))):=by
 have e1:cT [ej js]=some (.ok .non):=by
  have h:bV [some (ej js)]=some (.nx [some (ej js)]):=by
   unfold bV;exact cf (bS (k:=b_) (aU (bT bg rfl (wI J))))
  show (match bV [some (ej js)] with | some (.nx ρ)=>some (Rs.ok Dv.non) | some (.rt d)=>some (.ok d) | some (.exc c)=>some (.exc c) | none=>none)=_
  rw [h]
 refine z7 ?_;show cW [some (ej js)]=_;unfold cW;have dn:gy (bQ cT 1 (aa (ac 0) ag)) [some (ej js)]=some (.nx [some (ej js)]):=rD (d:=.non) (cE cT (ae (x:=ej js) rfl ai) rfl e1);rw [ao dn];exact aV (ql J.g J.l)
theorem mF {x:Str} {ls:List Str} {z:Str} (c:Cut x ls z) (hx:x.length≤80000) {ρ:Ev} (h0:ac 0 ρ=some (.ok (.str x))):fM bc (ac 0) (aa (fC (.str "\n")) ag) ρ=some (.ok (.lst ((ls ++ [z]).map Dv.str))):=(fM_of (x:=x) h0 (ae (x:=.str "\n") rfl ai)).trans (by
 rw [et (by omega) (by decide),c.e])
theorem Bb (ls:List Str) (z:Str):fv ((ls ++ [z]).map Dv.str) none (some (-1))=ls.map Dv.str:=by
 rw [Gq];exact sW _ _
theorem neS {a b:Str}:neX (.str a) (.str b)=bo (!seq a b):=rfl
theorem Bc {x:Str} {ls:List Str} {z:Str} (c:Cut x ls z) (hx:x.length≤80000):(∃ js,W x js∧bx [.str x]=some (.ok (ej js)))∨((∀ js,¬ W x js)∧bx [.str x]=some (.exc 7)):=by
 have s1:cp (lM (fM bc (ac 0) (aa (fC (.str "\n")) ag)) au (am (f1 gA (fC (.int 1))))) [some (.str x),none]=some (.ok (ls.map Dv.str)):=by
  unfold cp lM;rw [mF c hx rfl];show some (Rs.ok (fv ((ls ++ [z]).map Dv.str) none (some (-1))))=_;rw [Bb]
 have cm:=cF (cs:=[]) (src:=cp (lM (fM bc (ac 0) (aa (fC (.str "\n")) ag)) au (am (f1 gA (fC (.int 1)))))) (elt:=aj bh 1 (aa (ac 0) ag)) (ρ:=[some (.str x),none]) Dv.str rdV (l:=ls) s1 (by have:=c.n; omega) fun l hl=>bT bh rfl (ux (c.t l hl)).1;have v1:fB1 dO (aa (cz [] (cp (lM (fM bc (ac 0) (aa (fC (.str "\n")) ag)) au (am (f1 gA (fC (.int 1)))))) none (aj bh 1 (aa (ac 0) ag))) ag) [some (.str x),none]=some (.ok (.tup (ls.map rdV))):=(aW (ae cm ai)).trans rfl;have c0:dL (fB (f1 (eQ dU) (ac 0))) [some (.str x),none]=some (.ok c_):=rfl;obtain ⟨b,jb,hb⟩:=uw (ds:=ls.map rdV) (fun d hd=>by
  obtain ⟨l,hl,rfl⟩:=Fq.mp hd;exact (ux (c.t l hl)).2) (by rw [s_]; have:=c.n; omega)
 have go:cY [some (.str x),none]=aG (bZ (bOr (dL (fB (aj bg 1 (aa (ac 1) ag)))) (fB (f2 neX (bQ aO 1 (aa (ac 1) ag)) (ac 0)))) (di 7 (fC (.str "this is not the writing of a jar"))) (fun ρ=>some (.nx ρ))) (bb (ac 1)) [some (.str x),some (.tup (ls.map rdV))]:=by
  unfold cY;rw [ao (cf c0),ao (aB (ρ':=[some (.str x),some (.tup (ls.map rdV))]) v1 rfl)]
 have cj:fB (aj bg 1 (aa (ac 1) ag)) [some (.str x),some (.tup (ls.map rdV))]=some (.ok b):=aU (bT bg rfl jb);by_cases hw:∃ js,W x js
 · obtain ⟨js,hw⟩:=hw;left;refine ⟨js,hw,?_⟩;have e:ls.map rdV=js.map enc:=by
    rw [(qE hw c).1,GQ];exact Go fun n hn=>qC (hw.1.g n hn)
   have ee:Dv.tup (ls.map rdV)=ej js:=by rw [e]; rfl
   have bt:b=b_:=by
    rw [ee,wI hw.1] at jb;cases jb;rfl
   rw [bt] at cj;have cn:fB (f2 neX (bQ aO 1 (aa (ac 1) ag)) (ac 0)) [some (.str x),some (.tup (ls.map rdV))]=some (.ok c_):=aU ((aq (cE aO (ae (x:=ej js) (by rw [ee]; rfl) ai) rfl (jx hw.1)) (y:=.str x) rfl).trans (by
    rw [neS,← hw.2,qm];rfl))
   refine z7 (go.trans ?_);rw [ao (cf ((oN (bS cj)).trans cn)),ee];rfl
 · right;refine ⟨fun js h=>hw ⟨js,h⟩,?_⟩;have cc:bOr (dL (fB (aj bg 1 (aa (ac 1) ag)))) (fB (f2 neX (bQ aO 1 (aa (ac 1) ag)) (ac 0))) [some (.str x),some (.tup (ls.map rdV))]=some (.ok b_):=by
    cases hbb:b with
    | false =>
     rw [hbb] at cj;exact rE (bS cj)
    | true =>
     obtain ⟨js,J,e⟩:=hb hbb;rw [hbb] at cj;refine (oN (bS cj)).trans (aU ((aq (cE aO (ae (x:=ej js) (by rw [e]; rfl) ai) rfl (jx J)) (y:=.str x) rfl).trans ?_));rw [neS];cases hs:seq (TXT js) x with
     | false=>rfl
     | true=>exact absurd ⟨js,J,(iz hs).symm⟩ hw
   exact Ew (go.trans (Ex (C0 cc rfl)))
theorem Bd {x:Str} {js:List Note} (h:bx [.str x]=some (.ok (ej js))):bX [.str x]=some (.ok (ej js)):=by
 refine bi ?_;show bH [some (.str x),none,none]=_;unfold bH;refine iX ?_;have c:=cE bx (n:=1) (g:=aa (ac 0) ag) (ρ:=[some (.str x),none,none]) (ae (x:=.str x) rfl ai) rfl h;unfold pP;rw [c]
theorem Be {x:Str} (h:bx [.str x]=some (.exc 7)):bX [.str x]=some (.ok .non):=by
 refine bi ?_;show bH [some (.str x),none,none]=_;unfold bH;refine iX ?_;have c:=cE bx (n:=1) (g:=aa (ac 0) ag) (ρ:=[some (.str x),none,none]) (ae (x:=.str x) rfl ai) rfl h;unfold pP;rw [c]
 kernel_rfl
theorem qF (ls:List Str) (z:Str):ixD (.lst ((ls ++ [z]).map Dv.str)) (.int (-1))=some (.ok (.str z)):=by
 show (match atD ((ls ++ [z]).map Dv.str) (-1) with | some d=>some (Rs.ok d) | none=>none)=_
 unfold atD;rw [if_neg (by omega),if_pos (by rw [s_,z_]; simp; omega)];have e:((-1:Int) + (((ls ++ [z]).map Dv.str).length:Int)).toNat=ls.length:=by rw [s_,z_]; simp; omega
 rw [e,Fh,FN (p_ _)];simp
theorem Bf {x:Str} {ls:List Str} {z:Str} (c:Cut x ls z) (hx:x.length≤80000):(∃ js,W x js∧bM [.str x]=some (.ok (ej js)))∨((∀ js,¬ W x js)∧bM [.str x]=some (.ok .non)):=by
 obtain ⟨L,hL⟩:∃ L,L=Dv.lst ((ls ++ [z]).map Dv.str):=⟨_,rfl⟩;have s0:fM bc (ac 0) (aa (fC (.str "\n")) ag) [some (.str x),none,none]=some (.ok L):=by rw [hL]; exact mF c hx rfl
 have s1:cp (aw (ac 1) au (am (f1 gA (fC (.int 1))))) [some (.str x),some L,none]=some (.ok (ls.map Dv.str)):=by
  unfold cp;rw [bF (x:=L) (l:=none) (h:=some (-1)) rfl rfl rfl,hL];show some (Rs.ok (fv ((ls ++ [z]).map Dv.str) none (some (-1))))=_;rw [Bb]
 have cm:=cF (cs:=[]) (src:=cp (aw (ac 1) au (am (f1 gA (fC (.int 1)))))) (elt:=aj bu 1 (aa (ac 0) ag)) (ρ:=[some (.str x),some L,none]) Dv.str lwV (l:=ls) s1 (by have:=c.n; omega) fun l hl=>bT bu rfl (qB (c.t l hl)).1;have v1:fB1 dO (aa (cz [] (cp (aw (ac 1) au (am (f1 gA (fC (.int 1)))))) none (aj bu 1 (aa (ac 0) ag))) ag) [some (.str x),some L,none]=some (.ok (.tup (ls.map lwV))):=(aW (ae cm ai)).trans rfl;obtain ⟨b,jb,hb⟩:=uw (ds:=ls.map lwV) (fun d hd=>by
  obtain ⟨l,hl,rfl⟩:=Fq.mp hd;exact (qB (c.t l hl)).2.1) (by rw [s_]; have:=c.n; omega)
 have ce:fB (f2 eqX (f2 ixD (ac 1) (f1 gA (fC (.int 1)))) (fC (.str ""))) [some (.str x),some L,some (.tup (ls.map lwV))]=some (.ok (seq z (a_ ""))):=aU ((aq (x:=.str z) (y:=.str "") ((aq (x:=L) (y:=.int (-1)) rfl rfl).trans (by rw [hL]; exact qF ls z)) rfl).trans rfl);have cj:fB (aj bg 1 (aa (ac 2) ag)) [some (.str x),some L,some (.tup (ls.map lwV))]=some (.ok b):=aU (bT bg rfl jb);have go:dw [some (.str x),none,none]=bb (fIf (kz (fB (f2 eqX (f2 ixD (ac 1) (f1 gA (fC (.int 1)))) (fC (.str "")))) (fB (aj bg 1 (aa (ac 2) ag)))) (ac 2) (fC .non)) [some (.str x),some L,some (.tup (ls.map lwV))]:=by
  unfold dw;rw [ao (aB (ρ':=[some (.str x),some L,none]) s0 rfl),ao (aB (ρ':=[some (.str x),some L,some (.tup (ls.map lwV))]) v1 rfl)]
 have ca:=z9 ce cj;by_cases hw:∃ js,W x js
 · obtain ⟨js,hw⟩:=hw;left;refine ⟨js,hw,bi (go.trans (aV ?_))⟩;have e:ls.map lwV=js.map enc:=by
    rw [(qE hw c).1,GQ];exact Go fun n hn=>A0 (hw.1.g n hn)
   have ee:Dv.tup (ls.map lwV)=ej js:=by rw [e]; rfl
   have bt:b=b_:=by
    rw [ee,wI hw.1] at jb;cases jb;rfl
   rw [bt,(qE hw c).2,qm] at ca;rw [yW ca,ee];rfl
 · right;refine ⟨fun js h=>hw ⟨js,h⟩,bi (go.trans (aV ?_))⟩;have hf:(seq z (a_ "") && b)=c_:=by
    cases hz:seq z (a_ "") with
    | false=>rfl
    | true =>
     cases hbb:b with
     | false=>rfl
     | true =>
      obtain ⟨js,J,e⟩:=hb hbb;have hz':=iz hz;subst hz';have el:ls=js.map Ln:=by
       have:∀ (ls:List Str) (js:List Note),(∀ l∈ls,Tx l)→ls.map lwV=js.map enc→ls=js.map Ln:=by
        intro ls
        induction ls with
        | nil=>intro js _ h; cases js with
         | nil=>rfl
         | cons n js=>cases h
        | cons l ls ih =>
         intro js ht h;cases js with
         | nil=>cases h
         | cons n js =>
          rw [Fe,Fe,Hd] at h;rw [Fe,← (qB (ht l g_)).2.2 n h.1,← ih js (fun q hq=>ht q (f_ _ hq)) h.2]
       exact this ls js c.t e
      exact absurd ⟨js,J,w9 c el⟩ hw
   rw [hf] at ca;rw [yX ca];rfl
theorem agree {x:Str} (hx:Tx x) (hl:x.length≤80000):∃ V,bX [.str x]=some (.ok V)∧bM [.str x]=some (.ok V)∧neX V V=some (.ok (.bl c_))∧∀ js,W x js→V=ej js:=by
 obtain ⟨ls,z,c⟩:=Ba hx hl;rcases Bc c hl with ⟨js,hw,h1⟩ | ⟨hn,h1⟩
 · rcases Bf c hl with ⟨js',hw',h2⟩ | ⟨hn',_⟩
   · have same:∀ k,W x k→ej k=ej js:=fun k hk=>by
      have e1:=(qE hw c).1;have e2:=(qE hk c).1;rw [e1] at e2;have r1:(js.map Ln).map rdV=js.map enc:=by
       rw [GQ];exact Go fun n hn=>qC (hw.1.g n hn)
      have r2:(k.map Ln).map rdV=k.map enc:=by
       rw [GQ];exact Go fun n hn=>qC (hk.1.g n hn)
      show Dv.tup (k.map enc)=Dv.tup (js.map enc);rw [← r1,← r2,e2]
     refine ⟨ej js,Bd h1,by rw [h2,same js' hw'],wo ((it_ej hw.1.g).okP (by omega)) (it_ej hw.1.g).p,fun k hk=>(same k hk).symm⟩
   · exact absurd hw (hn' js)
 · rcases Bf c hl with ⟨js',hw',_⟩ | ⟨_,h2⟩
   · exact absurd hw' (hn js')
   · exact ⟨.non,Be h1,h2,by kernel_rfl,fun js hw=>absurd hw (hn js)⟩
end PT
namespace PT
open PySem PySem.Spec PyProof.Rows L2 FD PySem.Builtin.Str
structure Bt (n:Nat) (x:Str):Prop where
 l:x.length≤n
 s:Sg x
theorem Bt.le {n m:Nat} {x:Str} (h:Bt n x) (hm:n≤m):Bt m x:=⟨EW h.l hm,h.s⟩
structure LB (B k:Nat) (l:List Str):Prop where
 n:l.length≤k
 b:∀ x∈l,Bt B x
theorem LB.le {B k B' k':Nat} {l:List Str} (h:LB B k l) (hB:B≤B') (hk:k≤k'):LB B' k' l:=⟨EW h.n hk,fun x hx=>(h.b x hx).le hB⟩
def HT (B:Nat) (e:FnE) (ρ:Ev):Prop:=∃ x,Bt B x∧e ρ=some (.ok (.str x))
def HL (B k:Nat) (e:FnE) (ρ:Ev):Prop:=∃ l,LB B k l∧e ρ=some (.ok (.lst (l.map Dv.str)))
def HA (B k:Nat) (g:FnA) (ρ:Ev):Prop:=∃ l,LB B k l∧g ρ=some (.ok (l.map Dv.str))
def HO (o:FnO) (ρ:Ev):Prop:=∃ v,o ρ=some (.ok v)
def HI (e:FnE) (ρ:Ev):Prop:=∃ i,e ρ=some (.ok (.int i))
section
variable {B B' k k':Nat} {e f:FnE} {g:FnA} {o p:FnO} {ρ:Ev}
theorem HT.le (h:HT B e ρ) (hB:B≤B'):HT B' e ρ:=let ⟨x,b,z⟩:=h; ⟨x,b.le hB,z⟩
theorem HL.le (h:HL B k e ρ) (hB:B≤B') (hk:k≤k'):HL B' k' e ρ:=let ⟨x,b,z⟩:=h; ⟨x,b.le hB hk,z⟩
theorem gl {x y:Str} (h:Sg x) (h':Sg y):Sg (x ++ y):=fun c hc=>by
 rw [aL] at hc;rcases t_.mp hc with z | z
 · exact h c z
 · exact h' c z
theorem HT.add (h:HT B e ρ) (h':HT B' f ρ) (hB:B + B'≤90000):HT (B + B') (f2 aH e f) ρ:=by
 obtain ⟨x,b,z⟩:=h;obtain ⟨y,b',z'⟩:=h';have:=b.l;have:=b'.l;exact ⟨x ++ y,⟨by rw [cx]; omega,gl b.s b'.s⟩,(aq z z').trans (Av (by omega))⟩
theorem qG {x:Str} {lo hi:Option Int} {c:Nat} (h:c∈(FP x lo hi).cps.toList):c∈x.cps.toList:=by
 unfold FP at h;split at h
 · exact h
 · have h2:c∈(strSliceIndices lo hi 1 x.length).filterMap fun i=>x.cps[i]?:=h;obtain ⟨i,_,hi⟩:=Gc.mp h2;rw [← FZ] at hi;exact Gf hi
theorem HT.cut (h:HT B e ρ) (hB:B≤90000) (ho:HO o ρ) (hp:HO p ρ):HT B (aw e o p) ρ:=by
 obtain ⟨x,b,z⟩:=h;obtain ⟨u,hu⟩:=ho;obtain ⟨v,hv⟩:=hp;have:=b.l;refine ⟨FP x u v,⟨EW (Hs _ _ _) b.l,fun c hc=>b.s c (qG hc)⟩,(bF z hu hv).trans ?_⟩;show (if x.length≤100000 then _ else none)=_;rw [if_pos (by omega)]
theorem HO.none:HO au ρ:=⟨_,rfl⟩
theorem HO.some (h:HI e ρ):HO (am e) ρ:=let ⟨i,z⟩:=h; ⟨_,gJ z⟩
theorem HI.addc (h:HI e ρ) (n:Int):HI (f2 aH e (fC (.int n))) ρ:=let ⟨i,z⟩:=h; ⟨i + n,(aq (y:=.int n) z rfl).trans rfl⟩
theorem HA.nil:HA B 0 ag ρ:=⟨[],⟨p_ _,fun x hx=>by cases hx⟩,rfl⟩
theorem HA.cons (h:HT B e ρ) (h':HA B k g ρ):HA B (k + 1) (aa e g) ρ:=by
 obtain ⟨x,b,z⟩:=h;obtain ⟨l,bl,zl⟩:=h';refine ⟨x :: l,⟨by rw [EV]; have:=bl.n; omega,fun y hy=>?_⟩,ae z zl⟩;rcases q_.mp hy with rfl | hy
 · exact b
 · exact bl.b y hy
theorem HL.mk (h:HA B k g ρ) (hk:k≤1000):HL B k (bD g) ρ:=by
 obtain ⟨l,bl,z⟩:=h;have:=bl.n;exact ⟨l,bl,dX z (by rw [s_]; omega)⟩
theorem HL.add (h:HL B k e ρ) (h':HL B k' f ρ) (hk:k + k'≤90000):HL B (k + k') (f2 aH e f) ρ:=by
 obtain ⟨l,b,z⟩:=h;obtain ⟨m,b',z'⟩:=h';have:=b.n;have:=b'.n;refine ⟨l ++ m,⟨by rw [z_]; omega,fun x hx=>?_⟩,(aq z z').trans ?_⟩
 · rcases t_.mp hx with w | w
   · exact b.b x w
   · exact b'.b x w
 · rw [Gq];exact uq (by rw [s_,s_]; omega)
theorem sX {α:Type} (l:List α) (u v:Option Int):(∀ x∈fv l u v,x∈l)∧(fv l u v).length≤l.length:=by
 unfold fv;refine ⟨fun x hx=>GA (KD hx),?_⟩;rw [GZ,Gs];omega
theorem sY {α β:Type} (f:α→β) (l:List α) (u v:Option Int):fv (l.map f) u v=(fv l u v).map f:=by
 unfold fv;rw [s_,List.map_take,List.map_drop]
theorem HL.cut (h:HL B k e ρ) (ho:HO o ρ) (hp:HO p ρ):HL B k (aw e o p) ρ:=by
 obtain ⟨l,b,z⟩:=h;obtain ⟨u,hu⟩:=ho;obtain ⟨v,hv⟩:=hp;have hs:=sX l u v;refine ⟨fv l u v,⟨EW hs.2 b.n,fun x hx=>b.b x (hs.1 x hx)⟩,(bF z hu hv).trans ?_⟩;show some (Rs.ok (Dv.lst (fv (l.map Dv.str) u v)))=_;rw [sY]
theorem HL.back (h:HL B k e ρ):HL B k (fK e) ρ:=by
 obtain ⟨l,b,z⟩:=h;refine ⟨l.reverse,⟨by rw [KW]; exact b.n,fun x hx=>b.b x (List.mem_reverse.mp hx)⟩,?_⟩;unfold fK;rw [z];show some (Rs.ok (Dv.lst (l.map Dv.str).reverse))=_;rw [List.map_reverse]
theorem qH {sep:Str}:∀ (l:List Str) (x:Str),(∀ p∈l,p.length≤B)→(l.foldl (fun t y=>t ++ sep ++ y) x).length≤x.length + l.length * (B + sep.length)
 | [],x,_=>by simp
 | y :: l,x,h=>by
  have ih:=qH (sep:=sep) l (x ++ sep ++ y) fun p hp=>h p (f_ _ hp);have h0:=h y g_;rw [cx,cx] at ih;show (l.foldl _ (x ++ sep ++ y)).length≤_;rw [EV,IU];omega
theorem qI {sep:Str} (hs:Sg sep):∀ (l:List Str) (x:Str),Sg x→(∀ p∈l,Sg p)→Sg (l.foldl (fun t y=>t ++ sep ++ y) x)
 | [],x,hx,_=>hx
 | y :: l,x,hx,h=>qI hs l (x ++ sep ++ y) (gl (gl hx hs) (h y g_)) fun p hp=>h p (f_ _ hp)
theorem xb {sep:Str} (hs:Sg sep) {l:List Str} (h:LB B k l):Bt (k * (B + sep.length)) (Gy sep l):=by
 have hn:=h.n;have hm:l.length * (B + sep.length)≤k * (B + sep.length):=Ky _ hn;cases l with
 | nil=>exact ⟨F7 _,fun c hc=>by cases hc⟩
 | cons x l =>
  rw [fR];have hx:=h.b x g_;have h1:=qH (sep:=sep) l x fun p hp=>(h.b p (f_ _ hp)).l;refine ⟨?_,qI hs l x hx.s fun p hp=>(h.b p (f_ _ hp)).s⟩;have:=hx.l;rw [EV,IU] at hm;omega
theorem EL {sep:Str} {ts:List Str} (hs:sep.length≤10) (h:∀ t∈ts,t.length≤20000) (hl:ts.length≤30):cH sep [.lst (ts.map Dv.str)]=some (.ok (.str (Gy sep ts))):=by
 show (match texts (ts.map Dv.str) with | some ts=>if Le sep ts=b_ then some (Rs.ok (Dv.str (Gy sep ts))) else none | none=>none)=_
 rw [il];dsimp only;have e:=jw sep 20000 ts 0 h;have e2:ts.length * (20000 + sep.length)≤30 * (20000 + 10):=Kz hl (by omega);have e4:Le sep ts=b_:=by
  unfold Le KU;rw [Ll];have e3:¬ (ts.foldl (fun a t=>a + t.length + sep.length) 0 > sizeLine):=by
   have:sizeLine=16777216:=by decide
   omega
  simp only [e3];rfl
 rw [if_pos e4]
theorem HL.join {sep:Str} (hs:Sg sep) (hl:sep.length≤10) (h:HL B k e ρ) (hB:B≤20000) (hk:k≤30):HT (k * (B + sep.length)) (fM cH (fC (.str sep)) (aa e ag)) ρ:=by
 obtain ⟨l,b,z⟩:=h;have:=b.n;exact ⟨Gy sep l,xb hs b,(fM_of (x:=sep) rfl (ae z ai)).trans (EL hl (fun t ht=>EW (b.b t ht).l hB) (by omega))⟩
end
theorem HT.c {B:Nat} {w:Str} {ρ:Ev} (h:(h_ (w.length≤B) && w.cps.toList.all fun c=>h_ (c < 0x110000))=b_):HT B (fC (.str w)) ρ:=by
 rw [i_,decide_eq_true_eq] at h;refine ⟨w,⟨h.1,fun c hc=>?_⟩,rfl⟩;have:=r_.mp h.2 c hc;simpa using this
theorem HT.v {B:Nat} {x:Str} {ρ:Ev} {i:Nat} (h:ρ[i]?=some (some (.str x))) (b:Bt B x):HT B (ac i) ρ:=⟨x,b,kX h⟩
theorem HL.v {B k:Nat} {l:List Str} {ρ:Ev} {i:Nat} (h:ρ[i]?=some (some (.lst (l.map Dv.str)))) (b:LB B k l):HL B k (ac i) ρ:=⟨l,b,kX h⟩
theorem HI.v {n:Int} {ρ:Ev} {i:Nat} (h:ρ[i]?=some (some (.int n))):HI (ac i) ρ:=⟨n,kX h⟩
theorem mG {sep:Str}:∀ (l:List Str) (x:Str),(l.foldl (fun t y=>t ++ sep ++ y) x).length=x.length + (l.map fun p=>sep.length + p.length).sum
 | [],x=>by simp
 | y :: l,x=>by
  rw [Ga,mG l,Fe,JA,cx,cx];omega
theorem gK {n:Note} (g:Good n):(Ln n).length≤210:=by
 have h0:=g.mk0; have h1:=g.mu; have h2:=g.us;unfold Ln;rw [fR,mG,show (a_ "; ").length=2 by decide];have a0:(Tz n.nm n.w).length≤23:=by
  have l1:=(kq g.nm).1;have l2:=(kr g.w).1;unfold Tz;rw [cx,cx,show (a_ "=").length=1 by decide];omega
 have a1:(P1 n).length≤105:=by
  have:=((nm_of g.hl).2 g.house).1;have z:(if n.ex then a_ "only " else a_ "for ").length≤5:=by cases n.ex <;> decide
  unfold P1;rw [cx];omega
 have a2:(P2 n).length≤26:=by
  have:=((pt_of g.pl).2 g.path).1;unfold P2;rw [cx,show (a_ "under ").length=6 by decide];omega
 have a8:(P8 n).length≤9:=by
  have:=(is_facts (i:=n.md) h0 (by omega)).1;unfold P8;rw [cx,show (a_ "made ").length=5 by decide];omega
 have a9:(P9 n).length≤9:=by
  have:=(is_facts (i:=n.us) (by omega) h2).1;unfold P9;rw [cx,show (a_ "used ").length=5 by decide];omega
 have a5:((oI "until " n.ends).toList.map fun p=>2 + p.length).sum≤12:=by
  unfold oI;cases he:n.ends with
  | none=>simp
  | some i =>
   have hi:=g.ends i he;have:=(is_facts hi.1 hi.2).1;show 2 + (a_ "until " ++ is i).length + 0≤12;rw [cx,show (a_ "until ").length=6 by decide];omega
 have a6:((oB "safe" n.S).toList.map fun p=>2 + p.length).sum≤6:=by
  cases n.S
  · decide
  · decide
 have a7:((oB "near" (dR n.R)).toList.map fun p=>2 + p.length).sum≤6:=by
  cases dR n.R
  · decide
  · decide
 unfold PLn;simp only [Fe,JA,Gq,List.sum_append,LQ,List.sum_nil];omega
theorem Bg {js:List Note} (hg:∀ n∈js,Good n):Bt (js.length * 211) (TXT js):=by
 induction js with
 | nil=>exact ⟨F7 _,fun c hc=>by cases hc⟩
 | cons n js ih =>
  have h:=ih fun m hm=>hg m (f_ _ hm);have g:=hg n g_;have l1:=gK g;have l2:=h.l;refine ⟨?_,gl (gl (nu g).s fun c hc=>?_) h.s⟩
  · show (Ln n ++ nl ++ TXT js).length≤_;rw [cx,cx,EV,IU,show nl.length=1 by decide];omega
  · rw [show nl.cps.toList=[10] by kernel_rfl] at hc;rw [Fc.mp hc];omega
end PT
namespace PT
open PySem PySem.Spec PyProof.Rows L2 FD PySem.Builtin.Str
def EE (ns:List Int) (J:Dv) (x:Str) (d:Int) (c:Str) (L:Dv) (t7 t8 t9 t10 t11 t12 t13 t14:Option Dv):Ev:=[some (.scr ns),some J,some (.str x),some (.int d),some (.str c),none,some L,t7,t8,t9,t10,t11,t12,t13,t14]
section
variable {ns:List Int} {J:Dv} {x:Str} {d:Int} {c:Str} {ls:List Str} {t7 t8 t10 t11 t12 t13:Option Dv}
theorem Dr {k:Int} {ot:List Str} {xs:List Str} (hL:LB 210 5 ls) (ho:LB 210 24 ot) (hx:xs.length≤1000):∃ y,Bt 60000 y∧fj (EE ns J x d c (.lst (ls.map Dv.str)) t7 t8 (some (.int k)) t10 t11 t12 t13 (some (.lst (ot.map Dv.str)))) (xs.map Dv.str)=some (.nx (EE ns J x d c (.lst (ls.map Dv.str)) t7 t8 (some (.int k)) t10 t11 t12 t13 (some (.lst (ot.map Dv.str)))) ((xs ++ [y]).map Dv.str)):=by
 have l6:HL 210 5 (ac 6) (EE ns J x d c (.lst (ls.map Dv.str)) t7 t8 (some (.int k)) t10 t11 t12 t13 (some (.lst (ot.map Dv.str)))):=HL.v rfl hL;have l14:HL 210 24 (ac 14) (EE ns J x d c (.lst (ls.map Dv.str)) t7 t8 (some (.int k)) t10 t11 t12 t13 (some (.lst (ot.map Dv.str)))):=HL.v rfl ho;have i9:HI (ac 9) (EE ns J x d c (.lst (ls.map Dv.str)) t7 t8 (some (.int k)) t10 t11 t12 t13 (some (.lst (ot.map Dv.str)))):=HI.v rfl;have j1:=HL.join (sep:=a_ "; ") (by intro c hc; revert c hc; decide) (by decide) l14 (by omega) (by omega);have l1:=(HL.mk (HA.cons (B:=5088) (j1.le (by decide)) HA.nil) (by omega));have l2:=HL.add (HL.add ((l6.cut HO.none (HO.some i9)).le (B':=5088) (by omega) (p_ _)) l1 (by omega)) ((l6.cut (HO.some (i9.addc 1)) HO.none).le (B':=5088) (by omega) (p_ _)) (by omega);obtain ⟨y,hy,e⟩:=HL.join (sep:=a_ "\n") (by intro c hc; revert c hc; decide) (by decide) l2 (by omega) (by omega);refine ⟨y,hy.le (by decide),?_⟩;unfold fj gC;rw [if_pos (by rw [s_]; omega),e,Gq];rfl
theorem Bh {k:Int} (hL:LB 210 5 ls):∀ (os:List (List Str)) (xs:List Str) (t14:Option Dv),(∀ o∈os,LB 210 24 o)→xs.length + os.length≤1000→LB 60000 1000 xs→∃ ys,LB 60000 1000 ys∧ys.length=xs.length + os.length∧dc 14 [14] fj (os.map fun l=>Dv.lst (l.map Dv.str)) (EE ns J x d c (.lst (ls.map Dv.str)) t7 t8 (some (.int k)) t10 t11 t12 t13 t14) (xs.map Dv.str)=some (.nx (EE ns J x d c (.lst (ls.map Dv.str)) t7 t8 (some (.int k)) t10 t11 t12 t13 none) (ys.map Dv.str))
 | [],xs,t14,_,_,hx=>⟨xs,hx,rfl,rfl⟩
 | o :: os,xs,t14,h,hl,hx=>by
  rw [EV] at hl;obtain ⟨y,hy,e⟩:=Dr (ns:=ns) (J:=J) (x:=x) (d:=d) (c:=c) (t7:=t7) (t8:=t8) (t10:=t10) (t11:=t11) (t12:=t12) (t13:=t13) (k:=k) (xs:=xs) hL (h o g_) (by omega);have hx2:LB 60000 1000 (xs ++ [y]):=⟨by rw [z_]; simp; omega,fun z hz=>by
   rcases t_.mp hz with w | w
   · exact hx.b z w
   · rw [Fc.mp w]; exact hy⟩
  obtain ⟨ys,h1,h2,e2⟩:=Bh hL os (xs ++ [y]) (some (.lst (o.map Dv.str))) (fun z hz=>h z (f_ _ hz)) (by rw [z_]; simp; omega) hx2;refine ⟨ys,h1,by rw [h2,z_,EV]; simp; omega,?_⟩;show (match fj (EE ns J x d c (.lst (ls.map Dv.str)) t7 t8 (some (.int k)) t10 t11 t12 t13 (some (.lst (o.map Dv.str)))) (xs.map Dv.str) with
   | some (.nx ρ' xs')=>dc 14 [14] fj (List.map (fun l:List Str=>Dv.lst (l.map Dv.str)) os) ρ' xs'
   | o=>o)=_
  rw [e];exact e2
def odd:List Str:=[a_ "safe",a_ "near",a_ "until 7",a_ "until 07",a_ "any",a_ "made 0",a_ "used 9",a_ "x=",a_ "for a.b",a_ "only b"]
theorem Bi {l:List Str} {i:Int} (h0:0≤i) (h1:i < l.length):∃ x∈l,ixD (.lst (l.map Dv.str)) (.int i)=some (.ok (.str x)):=by
 have h2:i.toNat < l.length:=by omega
 refine ⟨l[i.toNat],Hu _,?_⟩;show (match atD (l.map Dv.str) i with | some d=>some (Rs.ok d) | none=>none)=_
 unfold atD;rw [if_pos h0,Ff (by rw [s_]; exact h2),List.getElem_map]
theorem mH {B:Nat} {w:Str} (h:(h_ (w.length≤B) && w.cps.toList.all fun c=>h_ (c < 0x110000))=b_):Bt B w:=by
 rw [i_,decide_eq_true_eq] at h;refine ⟨h.1,fun c hc=>?_⟩;have:=r_.mp h.2 c hc;simpa using this
theorem Bj {w:Str} (h:w∈odd):Bt 210 w:=mH (fY (show (odd.all fun w=>h_ (w.length≤210) && w.cps.toList.all fun c=>h_ (c < 0x110000))=b_ by kernel_rfl) h)
theorem io {j:Nat} {f:FnE} {g:dD} {ρ ρ':Ev} {ds:List Dv} {v:Dv} (h:f ρ=some (.ok v)) (e:ρ.set j (some v)=ρ'):bK (dj j f) g ρ ds=g ρ' ds:=ik (wE h e)
theorem sZ {n:Note} (g:Good n):LB 210 8 (Tz n.nm n.w :: PLn n):=by
 have:(PLn n).length≤7:=lz;refine ⟨by rw [EV]; omega,fun z hz=>?_⟩;have tx:=nu g;have hm:z∈u_ (Ln n) (a_ "; "):=by rw [gI g]; exact hz
 have:=db hm;have:=gK g;exact ⟨by omega,fun c hc=>tx.s c (fQ hm hc)⟩
theorem Ds {js:List Note} (hl:ns.length≤63) (hg:∀ n∈js,Good n) (hj:js.length≤4) {k:Nat} (hk:k < js.length) {xs:List Str} (hx:LB 60000 1000 xs) (hx2:xs.length + 5≤1000):∃ ys u7 u10 u11 u12 u13,LB 60000 1000 ys∧ys.length=xs.length + 5∧de (EE ns J x d c (.lst ((js.map Ln ++ [a_ ""]).map Dv.str)) none t8 (some (.int (k:Int))) t10 t11 none none none) (xs.map Dv.str)=some (.nx (EE ns J x d c (.lst ((js.map Ln ++ [a_ ""]).map Dv.str)) u7 t8 (some (.int (k:Int))) u10 u11 u12 u13 none) (ys.map Dv.str)):=by
 have hL:LB 210 5 (js.map Ln ++ [a_ ""]):=⟨by simp; omega,fun z hz=>by
  rcases t_.mp hz with w | w
  · obtain ⟨n,hn,rfl⟩:=Fq.mp w;exact ⟨gK (hg n hn),(nu (hg n hn)).s⟩
  · rw [Fc.mp w]; exact mH (by kernel_rfl)⟩
 obtain ⟨n,hn,en⟩:∃ n∈js,ixD (.lst ((js.map Ln ++ [a_ ""]).map Dv.str)) (.int (k:Int))=some (.ok (.str (Ln n))):=by
  refine ⟨js[k],Hu _,?_⟩;show (match atD ((js.map Ln ++ [a_ ""]).map Dv.str) (k:Int) with | some d=>some (Rs.ok d) | none=>none)=_
  unfold atD;rw [if_pos (by omega),Int.toNat_natCast,Fh,FQ (by rw [s_]; exact hk),Fh,Ff hk];rfl
 have g:=hg n hn;have pl:=sZ g;obtain ⟨P,hP⟩:∃ P,P=Tz n.nm n.w :: PLn n:=⟨_,rfl⟩;rw [← hP] at pl;have hP1:1≤P.length:=by rw [hP,EV]; omega
 obtain ⟨LL,hLL⟩:∃ LL,LL=Dv.lst ((js.map Ln ++ [a_ ""]).map Dv.str):=⟨_,rfl⟩;rw [← hLL] at en ⊢;obtain ⟨t,a1,a2,e1⟩:=drawn_ok ns hl (80 + (k:Int)) (P.length:Int) (by omega);obtain ⟨u,b1,b2,e2⟩:=drawn_ok ns hl (90 + (k:Int)) 10 (by omega);obtain ⟨o,ho,eo⟩:=Bi (l:=odd) b1 b2;have v1:fM bc (f2 ixD (ac 6) (ac 9)) (aa (fC (.str "; ")) ag) (EE ns J x d c LL none t8 (some (.int (k:Int))) t10 t11 none none none)=some (.ok (.lst (P.map Dv.str))):=(fM_of (x:=Ln n) ((aq (x:=LL) (y:=.int (k:Int)) rfl rfl).trans en) (ae (x:=.str ds2) rfl ai)).trans (by
  rw [gi (nu g).l,show ds2=a_ "; " from rfl,gI g,hP])
 have v2:aj ah 3 (aa (ac 0) (aa (f2 aH (fC (.int 80)) (ac 9)) (aa (fB1 bA (aa (ac 10) ag)) ag))) (EE ns J x d c LL none t8 (some (.int (k:Int))) (some (.lst (P.map Dv.str))) t11 none none none)=some (.ok (.int t)):=cg (ae (x:=.scr ns) rfl (ae (x:=.int (80 + (k:Int))) rfl (ae (lB (l:=P) rfl) ai))) rfl e1;have v3:bD (aa (fC (.str "safe")) (aa (fC (.str "near")) (aa (fC (.str "until 7")) (aa (fC (.str "until 07")) (aa (fC (.str "any")) (aa (fC (.str "made 0")) (aa (fC (.str "used 9")) (aa (fC (.str "x=")) (aa (fC (.str "for a.b")) (aa (fC (.str "only b")) ag)))))))))) (EE ns J x d c LL (some (.int t)) t8 (some (.int (k:Int))) (some (.lst (P.map Dv.str))) t11 none none none)=some (.ok (.lst (odd.map Dv.str))):=rfl;have v4:f2 ixD (ac 11) (aj ah 3 (aa (ac 0) (aa (f2 aH (fC (.int 90)) (ac 9)) (aa (fC (.int 10)) ag)))) (EE ns J x d c LL (some (.int t)) t8 (some (.int (k:Int))) (some (.lst (P.map Dv.str))) (some (.lst (odd.map Dv.str))) none none none)=some (.ok (.str o)):=(aq (x:=.lst (odd.map Dv.str)) (y:=.int u) rfl (cg (ae (x:=.scr ns) rfl (ae (x:=.int (90 + (k:Int))) rfl (ae (x:=.int 10) rfl ai))) rfl e2)).trans eo;have G1:∀ t13,HL 210 8 (ac 10) (EE ns J x d c LL (some (.int t)) t8 (some (.int (k:Int))) (some (.lst (P.map Dv.str))) (some (.lst (odd.map Dv.str))) (some (.str o)) t13 none):=fun _=>HL.v rfl pl;have G2:∀ t13,HI (ac 7) (EE ns J x d c LL (some (.int t)) t8 (some (.int (k:Int))) (some (.lst (P.map Dv.str))) (some (.lst (odd.map Dv.str))) (some (.str o)) t13 none):=fun _=>HI.v rfl;have G3:∀ t13,HL 210 1 (bD (aa (ac 12) ag)) (EE ns J x d c LL (some (.int t)) t8 (some (.int (k:Int))) (some (.lst (P.map Dv.str))) (some (.lst (odd.map Dv.str))) (some (.str o)) t13 none):=fun _=>HL.mk (HA.cons (HT.v rfl (Bj ho)) HA.nil) (by omega);obtain ⟨q1,z1,w1⟩:=HL.add ((G1 none).cut HO.none (HO.some (G2 none))) ((G1 none).cut (HO.some ((G2 none).addc 1)) HO.none) (by omega);obtain ⟨q2,z2,w2⟩:=HL.add ((G1 none).cut HO.none (HO.some ((G2 none).addc 1))) ((G1 none).cut (HO.some (G2 none)) HO.none) (by omega);obtain ⟨q3,z3,w3⟩:=HL.add (HL.add ((G1 none).cut HO.none (HO.some (G2 none))) (G3 none) (by omega)) ((G1 none).cut (HO.some ((G2 none).addc 1)) HO.none) (by omega);have v5:=dX (ae w1 (ae w2 (ae w3 ai))) (by show 3≤100000; decide);obtain ⟨D3,hD3⟩:∃ D,D=Dv.lst [.lst (q1.map Dv.str),.lst (q2.map Dv.str),.lst (q3.map Dv.str)]:=⟨_,rfl⟩;rw [← hD3] at v5;obtain ⟨q4,z4,w4⟩:=HL.add (HL.add ((G1 (some D3)).cut HO.none (HO.some (G2 (some D3)))) (G3 (some D3)) (by omega)) ((G1 (some D3)).cut (HO.some (G2 (some D3))) HO.none) (by omega);obtain ⟨q5,z5,w5⟩:=HL.add (HL.add ((G1 (some D3)).cut HO.none (HO.some (G2 (some D3)))) ((G1 (some D3)).cut (HO.some (G2 (some D3))) (HO.some ((G2 (some D3)).addc 2))).back (by omega)) ((G1 (some D3)).cut (HO.some ((G2 (some D3)).addc 2)) HO.none) (by omega);have v6:f2 aH (ac 13) (bD (aa (f2 aH (f2 aH (aw (ac 10) au (am (ac 7))) (bD (aa (ac 12) ag))) (aw (ac 10) (am (ac 7)) au)) (aa (f2 aH (f2 aH (aw (ac 10) au (am (ac 7))) (fK (aw (ac 10) (am (ac 7)) (am (f2 aH (ac 7) (fC (.int 2))))))) (aw (ac 10) (am (f2 aH (ac 7) (fC (.int 2)))) au)) ag))) (EE ns J x d c LL (some (.int t)) t8 (some (.int (k:Int))) (some (.lst (P.map Dv.str))) (some (.lst (odd.map Dv.str))) (some (.str o)) (some D3) none)=some (.ok (.lst ([q1,q2,q3,q4,q5].map fun l=>Dv.lst (l.map Dv.str)))):=(aq (x:=D3) rfl (dX (ae w4 (ae w5 ai)) (by show 2≤100000; decide))).trans (by rw [hD3]; rfl);obtain ⟨ys,h1,h2,e9⟩:=Bh (ns:=ns) (J:=J) (x:=x) (d:=d) (c:=c) (t7:=some (.int t)) (t8:=t8) (t10:=some (.lst (P.map Dv.str))) (t11:=some (.lst (odd.map Dv.str))) (t12:=some (.str o)) (t13:=some (.lst ([q1,q2,q3,q4,q5].map fun l=>Dv.lst (l.map Dv.str)))) (k:=(k:Int)) hL [q1,q2,q3,q4,q5] xs none (fun z hz=>by
  simp only [q_,Fi,or_false] at hz;rcases hz with rfl | rfl | rfl | rfl | rfl
  · exact z1.le (p_ _) (by omega)
  · exact z2.le (p_ _) (by omega)
  · exact z3.le (p_ _) (by omega)
  · exact z4.le (p_ _) (by omega)
  · exact z5.le (by omega) (by omega)) (by show xs.length + 5≤1000; omega) hx
 refine ⟨ys,some (.int t),some (.lst (P.map Dv.str)),some (.lst (odd.map Dv.str)),some (.str o),some (.lst ([q1,q2,q3,q4,q5].map fun l=>Dv.lst (l.map Dv.str))),h1,h2,?_⟩;unfold de;rw [io v1 (ρ':=EE ns J x d c LL none t8 (some (.int (k:Int))) (some (.lst (P.map Dv.str))) t11 none none none) rfl];rw [io v2 (ρ':=EE ns J x d c LL (some (.int t)) t8 (some (.int (k:Int))) (some (.lst (P.map Dv.str))) t11 none none none) rfl];rw [io v3 (ρ':=EE ns J x d c LL (some (.int t)) t8 (some (.int (k:Int))) (some (.lst (P.map Dv.str))) (some (.lst (odd.map Dv.str))) none none none) rfl];rw [io v4 (ρ':=EE ns J x d c LL (some (.int t)) t8 (some (.int (k:Int))) (some (.lst (P.map Dv.str))) (some (.lst (odd.map Dv.str))) (some (.str o)) none none) rfl];rw [io v5 (ρ':=EE ns J x d c LL (some (.int t)) t8 (some (.int (k:Int))) (some (.lst (P.map Dv.str))) (some (.lst (odd.map Dv.str))) (some (.str o)) (some D3) none) rfl];rw [io v6 (ρ':=EE ns J x d c LL (some (.int t)) t8 (some (.int (k:Int))) (some (.lst (P.map Dv.str))) (some (.lst (odd.map Dv.str))) (some (.str o)) (some (.lst ([q1,q2,q3,q4,q5].map fun l=>Dv.lst (l.map Dv.str)))) none) rfl];rw [hLL];exact e9
end
end PT
namespace PT
open PySem PySem.Spec PyProof.Rows L2 FD PySem.Builtin.Str
section
variable {ns:List Int} {J:Dv} {x:Str} {d:Int} {c:Str} {t8:Option Dv}
theorem Dt {js:List Note} (hl:ns.length≤63) (hg:∀ n∈js,Good n) (hj:js.length≤4):∀ (m k:Nat),k + m≤js.length→∀ (t7 t9 t10 t11 t12 t13 t14:Option Dv) (xs:List Str),LB 60000 1000 xs→xs.length + 5 * m≤900→∃ ys u10 u11,LB 60000 1000 ys∧ys.length=xs.length + 5 * m∧dc 9 [7,12,13,14] de ((l_ m).map fun i:Nat=>Dv.int ((k + i:Nat):Int)) (EE ns J x d c (.lst ((js.map Ln ++ [a_ ""]).map Dv.str)) t7 t8 t9 t10 t11 t12 t13 t14) (xs.map Dv.str)=some (.nx (EE ns J x d c (.lst ((js.map Ln ++ [a_ ""]).map Dv.str)) none t8 (if m=0 then t9 else some (.int ((k + m - 1:Nat):Int))) u10 u11 none none none) (ys.map Dv.str)):=by
 intro m
 induction m with
 | zero=>intro k _ t7 t9 t10 t11 t12 t13 t14 xs hx _; exact ⟨xs,t10,t11,hx,by omega,rfl⟩
 | succ m ih =>
  intro k hk t7 t9 t10 t11 t12 t13 t14 xs hx hn;obtain ⟨ys,u7,u10,u11,u12,u13,h1,h2,e⟩:=Ds (ns:=ns) (J:=J) (x:=x) (d:=d) (c:=c) (t8:=t8) (t10:=t10) (t11:=t11) hl hg hj (k:=k) (by omega) hx (by omega);obtain ⟨zs,w10,w11,g1,g2,e2⟩:=ih (k + 1) (by omega) u7 (some (.int (k:Int))) u10 u11 u12 u13 none ys h1 (by omega);refine ⟨zs,w10,w11,g1,by omega,?_⟩;have er:(l_ (m + 1)).map (fun i:Nat=>Dv.int ((k + i:Nat):Int))=Dv.int (k:Int) :: (l_ m).map (fun i:Nat=>Dv.int ((k + 1 + i:Nat):Int)):=by
   rw [G_,Fe,GQ];congr 1;refine Go fun i _=>?_;show Dv.int ((k + (i + 1):Nat):Int)=Dv.int ((k + 1 + i:Nat):Int);congr 2;omega
  rw [er];show (match de (EE ns J x d c (.lst ((js.map Ln ++ [a_ ""]).map Dv.str)) none t8 (some (.int (k:Int))) t10 t11 none none none) (xs.map Dv.str) with
   | some (.nx ρ' xs')=>dc 9 [7,12,13,14] de ((l_ m).map fun i:Nat=>Dv.int ((k + 1 + i:Nat):Int)) ρ' xs'
   | o=>o)=_
  rw [e];refine e2.trans ?_;have:(if m=0 then some (Dv.int (k:Int)) else some (Dv.int ((k + 1 + m - 1:Nat):Int)))=if m + 1=0 then t9 else some (Dv.int ((k + (m + 1) - 1:Nat):Int)):=by
   rw [if_neg (show ¬ m + 1=0 by omega)];split
   · rename_i h; rw [h]; rfl
   · congr 3; omega
  rw [this]
end
def EF (ns:List Int) (J:Dv) (x:Str) (d:Int) (c:Str) (T L:Dv) (t7 t8 t9 t10 t11:Option Dv):Ev:=[some (.scr ns),some J,some (.str x),some (.int d),some (.str c),some T,some L,t7,t8,t9,t10,t11,none,none,none]
def pts8:List Str:=[a_ "n=5",a_ "for a.b",a_ "under /",a_ "safe",a_ "near",a_ "made 3",a_ "used 4"]
section
variable {ns:List Int} {J L:Dv} {x:Str} {d:Int} {c:Str} {t7 t8 t11:Option Dv}
theorem Du:LB 10 7 pts8:=⟨by decide,fun z hz=>mH (fY (show (pts8.all fun w=>h_ (w.length≤10) && w.cps.toList.all fun c=>h_ (c < 0x110000))=b_ by kernel_rfl) hz)⟩
theorem Dw {k:Int} {xs:List Str} (hx:LB 60000 1000 xs) (hn:xs.length + 2≤1000):∃ ys,LB 60000 1000 ys∧ys.length≤xs.length + 2∧(∀ z∈xs,z∈ys)∧cA (EF ns J x d c (.lst (xs.map Dv.str)) L t7 t8 (some (.int k)) (some (.lst (pts8.map Dv.str))) t11)=some (.nx (EF ns J x d c (.lst (ys.map Dv.str)) L t7 t8 (some (.int k)) (some (.lst (pts8.map Dv.str))) t11)):=by
 have l10:HL 10 7 (ac 10) (EF ns J x d c (.lst (xs.map Dv.str)) L t7 t8 (some (.int k)) (some (.lst (pts8.map Dv.str))) t11):=HL.v rfl Du;have i9:HI (ac 9) (EF ns J x d c (.lst (xs.map Dv.str)) L t7 t8 (some (.int k)) (some (.lst (pts8.map Dv.str))) t11):=HI.v rfl;have sS:Sg (a_ "; "):=by intro c hc; revert c hc; decide
 have j1:=(HL.join (sep:=a_ "; ") sS (by decide) (l10.cut HO.none (HO.some i9)) (by omega) (by omega)).add (HT.c (B:=1) (w:=a_ "\n") (by kernel_rfl)) (by decide);have j2:=(HL.join (sep:=a_ "; ") sS (by decide) (HL.add (l10.cut HO.none (HO.some i9)) (l10.cut (HO.some (i9.addc 1)) HO.none) (by omega)) (by omega) (by omega)).add (HT.c (B:=1) (w:=a_ "\n") (by kernel_rfl)) (by decide);obtain ⟨l,bl,z⟩:=HL.mk (HA.cons (B:=60000) (j1.le (by decide)) (HA.cons (j2.le (by decide)) HA.nil)) (by omega);have ln:=bl.n;refine ⟨xs ++ l,⟨by rw [z_]; omega,fun w hw=>?_⟩,by rw [z_]; omega,fun w hw=>ET _ hw,?_⟩
 · rcases t_.mp hw with q | q
   · exact hx.b w q
   · exact bl.b w q
 · unfold cA;refine aB (d:=.lst ((xs ++ l).map Dv.str)) ?_ rfl;unfold lv;refine (aq (x:=.lst (xs.map Dv.str)) rfl z).trans ?_;rw [Gq];exact uq (by rw [s_,s_]; omega)
theorem Bk:∀ (ks:List Int) (xs:List Str) (t9:Option Dv),LB 60000 1000 xs→xs.length + 2 * ks.length≤1000→∃ ys,LB 60000 1000 ys∧(∀ z∈xs,z∈ys)∧gW 9 [9] cA (ks.map Dv.int) (EF ns J x d c (.lst (xs.map Dv.str)) L t7 t8 t9 (some (.lst (pts8.map Dv.str))) t11)=some (.nx (EF ns J x d c (.lst (ys.map Dv.str)) L t7 t8 none (some (.lst (pts8.map Dv.str))) t11))
 | [],xs,t9,hx,_=>⟨xs,hx,fun z hz=>hz,rfl⟩
 | k :: ks,xs,t9,hx,hn=>by
  rw [EV] at hn;obtain ⟨ys,h1,h2,h3,e⟩:=Dw (ns:=ns) (J:=J) (L:=L) (x:=x) (d:=d) (c:=c) (t7:=t7) (t8:=t8) (t11:=t11) (k:=k) hx (by omega);obtain ⟨zs,g1,g2,e2⟩:=Bk ks ys (some (.int k)) h1 (by omega);refine ⟨zs,g1,fun z hz=>g2 z (h3 z hz),?_⟩;show (match cA (EF ns J x d c (.lst (xs.map Dv.str)) L t7 t8 (some (.int k)) (some (.lst (pts8.map Dv.str))) t11) with
   | some (.nx ρ')=>gW 9 [9] cA (ks.map Dv.int) ρ'
   | o=>o)=_
  rw [e];exact e2
theorem Bl {x:Str} (h:Bt 60000 x):Tx x:=⟨EW h.l (by omega),h.s⟩
theorem Bm {T:Dv} {t9 t10:Option Dv}:∀ (xs:List Str) (t11:Option Dv),(∀ z∈xs,Bt 60000 z)→gW 11 [11] cB (xs.map Dv.str) (EF ns J x d c T L t7 t8 t9 t10 t11)=some (.nx (EF ns J x d c T L t7 t8 t9 t10 none))
 | [],t11,_=>rfl
 | z :: xs,t11,h=>by
  have hz:=h z g_;obtain ⟨V,e1,e2,e3,_⟩:=agree (Bl hz) (EW hz.l (by omega));have e:cB (EF ns J x d c T L t7 t8 t9 t10 (some (.str z)))=some (.nx (EF ns J x d c T L t7 t8 t9 t10 (some (.str z)))):=by
   unfold cB;refine cf ?_;unfold lw;exact aU ((aq (bT bX rfl e1) (bT bM rfl e2)).trans e3)
  show (match cB (EF ns J x d c T L t7 t8 t9 t10 (some (.str z))) with
   | some (.nx ρ')=>gW 11 [11] cB (xs.map Dv.str) ρ'
   | o=>o)=_
  rw [e];exact Bm xs _ fun w hw=>h w (f_ _ hw)
end
def sgn:Str:=a_ "n=; 0a/\n.-"
theorem xf {u:Int} (h0:0≤u) (h1:u < 10):∃ c,Bt 1 c∧ixD (.str sgn) (.int u)=some (.ok (.str c)):=by
 have:u=0∨u=1∨u=2∨u=3∨u=4∨u=5∨u=6∨u=7∨u=8∨u=9:=by omega
 rcases this with rfl | rfl | rfl | rfl | rfl | rfl | rfl | rfl | rfl | rfl
 · exact ⟨a_ "n",mH (by kernel_rfl),by kernel_rfl⟩
 · exact ⟨a_ "=",mH (by kernel_rfl),by kernel_rfl⟩
 · exact ⟨a_ ";",mH (by kernel_rfl),by kernel_rfl⟩
 · exact ⟨a_ " ",mH (by kernel_rfl),by kernel_rfl⟩
 · exact ⟨a_ "0",mH (by kernel_rfl),by kernel_rfl⟩
 · exact ⟨a_ "a",mH (by kernel_rfl),by kernel_rfl⟩
 · exact ⟨a_ "/",mH (by kernel_rfl),by kernel_rfl⟩
 · exact ⟨a_ "\n",mH (by kernel_rfl),by kernel_rfl⟩
 · exact ⟨a_ ".",mH (by kernel_rfl),by kernel_rfl⟩
 · exact ⟨a_ "-",mH (by kernel_rfl),by kernel_rfl⟩
theorem Dx (ρ:Ev):fk ρ=some (.ok (.lst (pts8.map Dv.str))):=by kernel_rfl
end PT
namespace PT
open PySem PySem.Spec PyProof.Rows L2 FD PySem.Builtin.Str
theorem Bn {x:Str} (h:Bt 1000 x):∃ y,Bt 2000 y∧y9 (.str x) (.int 2)=some (.ok (.str y)):=by
 have e:y9 (.str x) (.int 2)=some (.ok (.str (FD.strMul x 2))):=by
  show (if x.length≤1000∧(-1000:Int)≤2∧(2:Int)≤1000 then _ else none)=_;rw [if_pos ⟨h.l,by omega,by omega⟩]
 refine ⟨FD.strMul x 2,?_,e⟩;unfold FD.strMul;rw [if_neg (by omega)];split
 · exact h.le (by omega)
 · have:(⟨MG (fun x1 x2=>x1 ++ x2) #[] (E6 (2:Int).toNat x.cps)⟩:Str)=x ++ x:=by
    show (⟨#[] ++ x.cps ++ x.cps⟩:Str)=⟨x.cps ++ x.cps⟩;rw [Array.empty_append]
   rw [this];exact ⟨by rw [cx]; have:=h.l; omega,gl h.s h.s⟩
theorem HL.addD {B k k':Nat} {e f:FnE} {ρ:Ev} (h:HL B k e ρ) (h':HL B k' f ρ) (hk:k + k'≤90000):HL B (k + k') (f2 addD e f) ρ:=by
 obtain ⟨l,b,z⟩:=h;obtain ⟨m,b',z'⟩:=h';obtain ⟨w,bw,zw⟩:=HL.add ⟨l,b,z⟩ ⟨m,b',z'⟩ hk;refine ⟨w,bw,?_⟩;rw [aq z z'] at zw ⊢;exact zw
end PT
open PySem PySem.Spec PyProof.Rows L2 FD PySem.Builtin.Str PT
theorem td (ns:List Int) (hl:ns.length≤63):pW [.scr ns]=some (.ok (.bl b_)):=by
 obtain ⟨js,now,e0,Jr,jl,_⟩:=G.jar_ok ns hl 0 4 (by omega);have bt:Bt 1000 (TXT js):=(Bg Jr.g).le (by omega);obtain ⟨x,hx⟩:∃ x,x=TXT js:=⟨_,rfl⟩;rw [← hx] at bt;obtain ⟨J,hJ⟩:∃ J,J=ej js:=⟨_,rfl⟩;rw [← hJ] at e0;have bl:=bt.l;refine bi ?_;show pV [some (.scr ns),none,none,none,none,none,none,none,none,none,none,none,none,none,none]=_;have v0:jm [some (.scr ns),none,none,none,none,none,none,none,none,none,none,none,none,none,none]=some (.ok J):=by
  unfold jm;exact PT.call3 eF rfl rfl rfl e0
 have v1:jn [some (.scr ns),some J,none,none,none,none,none,none,none,none,none,none,none,none,none]=some (.ok (.str x)):=by
  unfold jn;exact bT aO rfl (by rw [hJ,hx]; exact jx Jr)
 obtain ⟨d,d0,d1,e2⟩:=G.drawn_ok ns hl 70 ((x.length:Int) + 1) (by omega);have v2:jo [some (.scr ns),some J,some (.str x),none,none,none,none,none,none,none,none,none,none,none,none]=some (.ok (.int d)):=by
  unfold jo;exact cg (ae (x:=.scr ns) rfl (ae (x:=.int 70) rfl (ae (x:=.int ((x.length:Int) + 1)) ((aq (x:=.int (x.length:Int)) (y:=.int 1) ((aW (ae (x:=.str x) rfl ai)).trans (len_str (by omega))) rfl).trans rfl) ai))) rfl e2
 obtain ⟨u,u0,u1,e3⟩:=G.drawn_ok ns hl 71 10 (by omega);obtain ⟨c,hc,ec⟩:=xf u0 u1;have v3:jp [some (.scr ns),some J,some (.str x),some (.int d),none,none,none,none,none,none,none,none,none,none,none]=some (.ok (.str c)):=by
  unfold jp;exact (aq (x:=.str sgn) (y:=.int u) rfl (cg (ae (x:=.scr ns) rfl (ae (x:=.int 71) rfl (ae (x:=.int 10) rfl ai))) rfl e3)).trans ec
 have A2:∀ t5,HT 1000 (ac 2) [some (.scr ns),some J,some (.str x),some (.int d),some (.str c),t5,none,none,none,none,none,none,none,none,none]:=fun _=>HT.v rfl bt;have A3:∀ t5,HI (ac 3) [some (.scr ns),some J,some (.str x),some (.int d),some (.str c),t5,none,none,none,none,none,none,none,none,none]:=fun _=>HI.v rfl;have A4:∀ t5,HT 1 (ac 4) [some (.scr ns),some J,some (.str x),some (.int d),some (.str c),t5,none,none,none,none,none,none,none,none,none]:=fun _=>HT.v rfl hc;have h4:HL 60000 4 jq [some (.scr ns),some J,some (.str x),some (.int d),some (.str c),none,none,none,none,none,none,none,none,none,none]:=by
  unfold jq;exact HL.mk (HA.cons ((A2 none).le (by omega)) (HA.cons ((HT.add ((A2 none).cut (by omega) HO.none (HO.some (A3 none))) ((A2 none).cut (by omega) (HO.some ((A3 none).addc 1)) HO.none) (by omega)).le (by omega)) (HA.cons ((HT.add ((A2 none).cut (by omega) HO.none (HO.some ((A3 none).addc 1))) ((A2 none).cut (by omega) (HO.some (A3 none)) HO.none) (by omega)).le (by omega)) (HA.cons ((HT.add (HT.add ((A2 none).cut (by omega) HO.none (HO.some (A3 none))) (A4 none) (by omega)) ((A2 none).cut (by omega) (HO.some ((A3 none).addc 1)) HO.none) (by omega)).le (by omega)) HA.nil)))) (by omega)
 obtain ⟨x4,b4,v4⟩:=h4;obtain ⟨mm,hm,em⟩:=Bn bt;have h5:HL 60000 10 jr [some (.scr ns),some J,some (.str x),some (.int d),some (.str c),some (.lst (x4.map Dv.str)),none,none,none,none,none,none,none,none,none]:=by
  unfold jr;refine HL.add (HL.v rfl b4) (k':=6) (HL.mk (HA.cons ((HT.add (HT.add ((A2 _).cut (by omega) HO.none (HO.some (A3 _))) (A4 _) (by omega)) ((A2 _).cut (by omega) (HO.some (A3 _)) HO.none) (by omega)).le (by omega)) (HA.cons (HT.c (by kernel_rfl)) (HA.cons (HT.c (by kernel_rfl)) (HA.cons (HT.c (by kernel_rfl)) (HA.cons (((A2 _).cut (by omega) HO.none (HO.some ⟨-1,rfl⟩)).le (by omega)) (HA.cons (HT.le (B:=2000) ⟨mm,hm,(aq (x:=.str x) (y:=.int 2) rfl rfl).trans em⟩ (by omega)) HA.nil)))))) (by omega)) (by omega)
 obtain ⟨x5,b5,v5⟩:=h5;have hL:LB 210 5 (js.map Ln ++ [a_ ""]):=⟨by simp; omega,fun z hz=>by
  rcases t_.mp hz with w | w
  · obtain ⟨n,hn,rfl⟩:=Fq.mp w;exact ⟨gK (Jr.g n hn),(nu (Jr.g n hn)).s⟩
  · rw [Fc.mp w]; exact mH (by kernel_rfl)⟩
 obtain ⟨LL,hLL⟩:∃ LL,LL=Dv.lst ((js.map Ln ++ [a_ ""]).map Dv.str):=⟨_,rfl⟩;have v6:jt [some (.scr ns),some J,some (.str x),some (.int d),some (.str c),some (.lst (x5.map Dv.str)),none,none,none,none,none,none,none,none,none]=some (.ok LL):=by
  unfold jt;exact (PT.fM_of (x:=x) rfl (ae (x:=.str "\n") rfl ai)).trans (by
   rw [et (by omega) (by decide),hx,kx Jr.g,hLL])
 obtain ⟨t,t0,t1,e7⟩:=G.drawn_ok ns hl 72 ((js.map Ln ++ [a_ ""]).length:Int) (by rw [z_]; simp only [EV,List.length_nil]; omega);have v7:ju [some (.scr ns),some J,some (.str x),some (.int d),some (.str c),some (.lst (x5.map Dv.str)),some LL,none,none,none,none,none,none,none,none]=some (.ok (.int t)):=by
  unfold ju;exact cg (ae (x:=.scr ns) rfl (ae (x:=.int 72) rfl (ae (lB (l:=js.map Ln ++ [a_ ""]) (by rw [hLL]; rfl)) ai))) rfl e7
 have C6:∀ t5,HL 210 5 (ac 6) [some (.scr ns),some J,some (.str x),some (.int d),some (.str c),t5,some LL,some (.int t),none,none,none,none,none,none,none]:=fun t5=>HL.v (by rw [hLL]; rfl) hL;have C7:∀ t5,HI (ac 7) [some (.scr ns),some J,some (.str x),some (.int d),some (.str c),t5,some LL,some (.int t),none,none,none,none,none,none,none]:=fun _=>HI.v rfl;have sN:PT.Sg (a_ "\n"):=by intro c hc; revert c hc; decide
 have h10:HL 60000 12 gG [some (.scr ns),some J,some (.str x),some (.int d),some (.str c),some (.lst (x5.map Dv.str)),some LL,some (.int t),none,none,none,none,none,none,none]:=by
  unfold gG;exact HL.addD (HL.v rfl b5) (k':=2) (HL.mk (HA.cons ((HL.join (sep:=a_ "\n") sN (by decide) (HL.add ((C6 _).cut HO.none (HO.some (C7 _))) ((C6 _).cut (HO.some ((C7 _).addc 1)) HO.none) (by omega)) (by omega) (by omega)).le (by decide)) (HA.cons ((HL.join (sep:=a_ "\n") sN (by decide) (HL.add ((C6 _).cut HO.none (HO.some ((C7 _).addc 1))) ((C6 _).cut (HO.some (C7 _)) HO.none) (by omega)) (by omega) (by omega)).le (by decide)) HA.nil)) (by omega)) (by omega)
 obtain ⟨x6,b6,v10⟩:=h10;obtain ⟨x8,b8,v8⟩:=HL.add (HL.add ((C6 none).cut HO.none (HO.some (C7 none))) ((C6 none).cut (HO.some (C7 none)) (HO.some ((C7 none).addc 2))).back (by omega)) ((C6 none).cut (HO.some ((C7 none).addc 2)) HO.none) (by omega);have l8:HL 210 15 (ac 8) [some (.scr ns),some J,some (.str x),some (.int d),some (.str c),none,some LL,some (.int t),some (.lst (x8.map Dv.str)),none,none,none,none,none,none]:=HL.v rfl b8;obtain ⟨y8,by8,w8⟩:=HL.join (sep:=a_ "\n") sN (by decide) l8 (by omega) (by omega);have b7:LB 60000 1000 (x6 ++ [y8]):=⟨by rw [z_]; have:=b6.n; simp; omega,fun z hz=>by
  rcases t_.mp hz with w | w
  · exact b6.b z w
  · rw [Fc.mp w]; exact by8.le (by decide)⟩
 obtain ⟨ys,u10,u11,g1,g2,e9⟩:=Dt (ns:=ns) (J:=J) (x:=x) (d:=d) (c:=c) (t8:=some (.lst (x8.map Dv.str))) hl Jr.g jl js.length 0 (by omega) (some (.int t)) none none none none none none (x6 ++ [y8]) b7 (by rw [z_]; have:=b6.n; simp; omega);obtain ⟨u9,hu9⟩:∃ u:Option Dv,u=(if js.length=0 then none else some (.int ((0 + js.length - 1:Nat):Int))):=⟨_,rfl⟩;rw [← hu9,← hLL] at e9;have f9:i5 9 [7,12,13,14] (fun ρ=>bnd ((aa (f2 oG (fB1 bA (aa (ac 6) ag)) (fC (.int 1))) ag) ρ) gz) de [some (.scr ns),some J,some (.str x),some (.int d),some (.str c),none,some LL,some (.int t),some (.lst (x8.map Dv.str)),none,none,none,none,none,none] ((x6 ++ [y8]).map Dv.str)=some (.nx (EE ns J x d c LL none (some (.lst (x8.map Dv.str))) u9 u10 u11 none none none) (ys.map Dv.str)):=by
  have sr:(aa (f2 oG (fB1 bA (aa (ac 6) ag)) (fC (.int 1))) ag) [some (.scr ns),some J,some (.str x),some (.int d),some (.str c),none,some LL,some (.int t),some (.lst (x8.map Dv.str)),none,none,none,none,none,none]=some (.ok [.int (js.length:Int)]):=ae ((aq (y:=.int 1) (lB (l:=js.map Ln ++ [a_ ""]) (by rw [hLL]; rfl)) rfl).trans (by
   show some (Rs.ok (Dv.int (((js.map Ln ++ [a_ ""]).length:Int) - 1)))=_;congr 3;simp)) ai
  have rg:gz [.int (js.length:Int)]=some (.ok ((l_ js.length).map fun i:Nat=>Dv.int (0 + (i:Int)))):=by rw [p3 (by omega),G.rng_map]
  unfold i5;show lV (bnd ((aa (f2 oG (fB1 bA (aa (ac 6) ag)) (fC (.int 1))) ag) [some (.scr ns),some J,some (.str x),some (.int d),some (.str c),none,some LL,some (.int t),some (.lst (x8.map Dv.str)),none,none,none,none,none,none]) gz) _=_;rw [mr sr,rg];have er:(l_ js.length).map (fun i:Nat=>Dv.int (0 + (i:Int)))=(l_ js.length).map fun i:Nat=>Dv.int ((0 + i:Nat):Int):=Go fun i _=>by congr 1
  rw [er];show (if imms ((l_ js.length).map fun i:Nat=>Dv.int ((0 + i:Nat):Int))=b_ then _ else none)=_;rw [if_pos (by
   have:=G.imms_ints ((l_ js.length).map fun i:Nat=>((0 + i:Nat):Int));rw [GQ] at this;exact this)]
  exact e9
 have f10:∃ T,(aG (bn 10 fk) (aG (jL 9 [9] (fun ρ=>bnd ((aa (fB1 bA (aa (ac 10) ag)) ag) ρ) gz) cA) (aG (jL 11 [11] (cp (ac 5)) cB) (bb fm)))) (EF ns J x d c (.lst (ys.map Dv.str)) LL none (some (.lst (x8.map Dv.str))) u9 u10 u11)=some (.rt T)∧T=.bl b_:=by
  refine ⟨_,?_,rfl⟩;rw [ao (aB (ρ':=EF ns J x d c (.lst (ys.map Dv.str)) LL none (some (.lst (x8.map Dv.str))) u9 (some (.lst (pts8.map Dv.str))) u11) (Dx _) rfl)];obtain ⟨zs,k1,k2,e10⟩:=Bk (ns:=ns) (J:=J) (L:=LL) (x:=x) (d:=d) (c:=c) (t7:=none) (t8:=some (.lst (x8.map Dv.str))) (t11:=u11) ((l_ 7).map fun i:Nat=>(0 + (i:Int))) ys u9 g1 (by rw [g2,z_,s_,Hl]; have:=b6.n; simp; omega);have f11:jL 9 [9] (fun ρ=>bnd ((aa (fB1 bA (aa (ac 10) ag)) ag) ρ) gz) cA (EF ns J x d c (.lst (ys.map Dv.str)) LL none (some (.lst (x8.map Dv.str))) u9 (some (.lst (pts8.map Dv.str))) u11)=some (.nx (EF ns J x d c (.lst (zs.map Dv.str)) LL none (some (.lst (x8.map Dv.str))) none (some (.lst (pts8.map Dv.str))) u11)):=by
   refine (oM (ds:=((l_ 7).map fun i:Nat=>(0 + (i:Int))).map Dv.int) ?_).trans e10;show bnd ((aa (fB1 bA (aa (ac 10) ag)) ag) (EF ns J x d c (.lst (ys.map Dv.str)) LL none (some (.lst (x8.map Dv.str))) u9 (some (.lst (pts8.map Dv.str))) u11)) gz=_;have a7:(aa (fB1 bA (aa (ac 10) ag)) ag) (EF ns J x d c (.lst (ys.map Dv.str)) LL none (some (.lst (x8.map Dv.str))) u9 (some (.lst (pts8.map Dv.str))) u11)=some (.ok [.int ((7:Nat):Int)]):=ae (lB (l:=pts8) rfl) ai;have r7:gz [.int ((7:Nat):Int)]=some (.ok ((l_ 7).map fun i:Nat=>Dv.int (0 + (i:Int)))):=by rw [p3 (by omega),G.rng_map]
   rw [mr a7,r7,GQ];rfl
  rw [ao f11];have f12:jL 11 [11] (cp (ac 5)) cB (EF ns J x d c (.lst (zs.map Dv.str)) LL none (some (.lst (x8.map Dv.str))) none (some (.lst (pts8.map Dv.str))) u11)=some (.nx (EF ns J x d c (.lst (zs.map Dv.str)) LL none (some (.lst (x8.map Dv.str))) none (some (.lst (pts8.map Dv.str))) none)):=(oM (ds:=zs.map Dv.str) rfl).trans (Bm zs u11 k1.b);rw [ao f12];obtain ⟨V,_,q2,q3,q4⟩:=PT.agree (x:=x) (Bl (bt.le (by omega))) (by omega);have hV:V=J:=by rw [hJ]; exact q4 js ⟨Jr,hx⟩
  refine aV ?_;unfold fm;refine (aq (bT bM rfl q2) (y:=J) rfl).trans ?_;rw [hV,hJ];exact wp ((G.it_ej Jr.g).okP (by omega)) (G.it_ej Jr.g).p
 obtain ⟨T,f10,hT⟩:=f10;unfold pV;rw [ao (aB (ρ':=[some (.scr ns),some J,none,none,none,none,none,none,none,none,none,none,none,none,none]) v0 rfl)];rw [ao (aB (ρ':=[some (.scr ns),some J,some (.str x),none,none,none,none,none,none,none,none,none,none,none,none]) v1 rfl)];rw [ao (aB (ρ':=[some (.scr ns),some J,some (.str x),some (.int d),none,none,none,none,none,none,none,none,none,none,none]) v2 rfl)];rw [ao (aB (ρ':=[some (.scr ns),some J,some (.str x),some (.int d),some (.str c),none,none,none,none,none,none,none,none,none,none]) v3 rfl)];rw [ao (aB (ρ':=[some (.scr ns),some J,some (.str x),some (.int d),some (.str c),some (.lst (x4.map Dv.str)),none,none,none,none,none,none,none,none,none]) v4 rfl)];rw [ao (aB (ρ':=[some (.scr ns),some J,some (.str x),some (.int d),some (.str c),some (.lst (x5.map Dv.str)),none,none,none,none,none,none,none,none,none]) v5 rfl)];rw [ao (aB (ρ':=[some (.scr ns),some J,some (.str x),some (.int d),some (.str c),some (.lst (x5.map Dv.str)),some LL,none,none,none,none,none,none,none,none]) v6 rfl)];rw [ao (aB (ρ':=[some (.scr ns),some J,some (.str x),some (.int d),some (.str c),some (.lst (x5.map Dv.str)),some LL,some (.int t),none,none,none,none,none,none,none]) v7 rfl)];unfold pF;rw [v10];have fin:(bK (dj 8 (f2 aH (f2 aH (aw (ac 6) au (am (ac 7))) (fK (aw (ac 6) (am (ac 7)) (am (f2 aH (ac 7) (fC (.int 2))))))) (aw (ac 6) (am (f2 aH (ac 7) (fC (.int 2)))) au))) (bK (gC (fM (cH) (fC (.str "\n")) (aa (ac 8) ag))) (bK (i5 9 [7,12,13,14] (fun ρ=>bnd ((aa (f2 oG (fB1 bA (aa (ac 6) ag)) (fC (.int 1))) ag) ρ) gz) de) (xl 5 (aG (bn 10 fk) (aG (jL 9 [9] (fun ρ=>bnd ((aa (fB1 bA (aa (ac 10) ag)) ag) ρ) gz) cA) (aG (jL 11 [11] (cp (ac 5)) cB) (bb fm)))))))) [some (.scr ns),some J,some (.str x),some (.int d),some (.str c),none,some LL,some (.int t),none,none,none,none,none,none,none] (x6.map Dv.str)=some (.rt (.bl b_)):=by
  rw [io v8 (ρ':=[some (.scr ns),some J,some (.str x),some (.int d),some (.str c),none,some LL,some (.int t),some (.lst (x8.map Dv.str)),none,none,none,none,none,none]) rfl];have ap:gC (fM (cH) (fC (.str "\n")) (aa (ac 8) ag)) [some (.scr ns),some J,some (.str x),some (.int d),some (.str c),none,some LL,some (.int t),some (.lst (x8.map Dv.str)),none,none,none,none,none,none] (x6.map Dv.str)=some (.nx [some (.scr ns),some J,some (.str x),some (.int d),some (.str c),none,some LL,some (.int t),some (.lst (x8.map Dv.str)),none,none,none,none,none,none] ((x6 ++ [y8]).map Dv.str)):=by
   unfold gC;rw [if_pos (by rw [s_]; have:=b6.n; omega),w8,Gq];rfl
  rw [ik ap,ik f9];unfold xl;show (match (aG (bn 10 fk) (aG (jL 9 [9] (fun ρ=>bnd ((aa (fB1 bA (aa (ac 10) ag)) ag) ρ) gz) cA) (aG (jL 11 [11] (cp (ac 5)) cB) (bb fm)))) (EF ns J x d c (.lst (ys.map Dv.str)) LL none (some (.lst (x8.map Dv.str))) u9 u10 u11) with | some (.rt d)=>some (Fo.rt d) | _=>none)=_
  rw [f10,hT]
 show (match (bK (dj 8 (f2 aH (f2 aH (aw (ac 6) au (am (ac 7))) (fK (aw (ac 6) (am (ac 7)) (am (f2 aH (ac 7) (fC (.int 2))))))) (aw (ac 6) (am (f2 aH (ac 7) (fC (.int 2)))) au))) (bK (gC (fM (cH) (fC (.str "\n")) (aa (ac 8) ag))) (bK (i5 9 [7,12,13,14] (fun ρ=>bnd ((aa (f2 oG (fB1 bA (aa (ac 6) ag)) (fC (.int 1))) ag) ρ) gz) de) (xl 5 (aG (bn 10 fk) (aG (jL 9 [9] (fun ρ=>bnd ((aa (fB1 bA (aa (ac 10) ag)) ag) ρ) gz) cA) (aG (jL 11 [11] (cp (ac 5)) cB) (bb fm)))))))) [some (.scr ns),some J,some (.str x),some (.int d),some (.str c),none,some LL,some (.int t),none,none,none,none,none,none,none] (x6.map Dv.str) with | some (.nx ρ' ds')=>some (Fl.nx (ρ'.set 5 (some (.lst ds')))) | some (.rt d)=>some (.rt d) | none=>none)=_
 rw [fin]
end G
namespace G
open PySem PySem.Spec PyProof.Rows L2 FD
theorem walk {l:Kf} {q:pi} {loose:List Str} {XP:(Str→Option d_)→Fg→Prop} {YP:EO→Fg→Prop} {d:DefRec} {K:Kt→ck} (hn:l.most=some 63) (hdf:d.params.defaults=[])
 (hY:∀ (w:EO) (h:Fg),YP w h→(K w.params).In h)
 (F:∀ (w:EO) (mg:Str→Option d_) (fa:k_) (h:Fg),(K w.params).In h→h.Ns x_ mg→mg d.name=some (.ref fa) →
   ∃ fd:F3,(∀ (s:e_) (u:d_),KO s fd ⟨[u],[]⟩ [("_law_script",u)])∧∀ base:Fg,(K w.params).In base→base.Ns x_ mg→FnOk l.prog w (K w.params) mg base CX0 10 fa fd ["_law_script"] (spF (K w.params) pW 1)) :
 MJ q loose XP YP l.row.toRowW d [] (fun f vs=>Mu f vs) :=
 L2.walk_of (n:=63) (k:=10) (x:="_law_script") (CX:=fun _=>CX0) (sp:=fun w=>spF (K w.params) pW 1) hn (by decide) hdf ⟨rfl,by decide,by decide,rfl⟩ hY F
  (fun _ _ a ns hl _ hS=>⟨[.scr ns],⟨.ref a,[],rfl,⟨a,rfl,hS⟩,rfl⟩,rfl,by rw [td ns hl]; exact fun v H' _ r=>r⟩) fun _ _ _ _ _ z=>z
end G
open PySem PySem.W PyProof.Rows
set_option maxRecDepth 100000 in
theorem PySem.Challenge.cw_notejar_k81_whole_read_holds : PySem.Challenge.rw_notejar_k81_whole_read.Holds := by
 refine G.hld fun said=>?_;refine PySem.W.holds_open (q:=G.VQ) (loose:=G.VL) (Xt:=fun s=>recOk [] s) (XP:=fun _ _=>True) (Yf:=Hook.obs (MN G.KK G.KA G.KA_ok)) (Ya:=Hook.val (MN G.KK G.KA G.KA_ok)) (YP:=Hook.says (MN G.KK G.KA G.KA_ok)) (N:=4500) G.left (Hook.of (MN G.KK G.KA G.KA_ok)) (Hook.keeps (MN G.KK G.KA G.KA_ok)) (fun _ _=>trivial) (fun _ _ _ _ _=>trivial) (by rfl) (by rfl) (by rfl) (fun s e=>recFacts_of e) (by rfl) (by first | assumption | decide +kernel) (by decide +kernel) G.hbr ?hw ?hc
 (case hw=>w_witness2)
 refine G.walk (l:=PySem.Challenge.rw_notejar_k81_whole_read) rfl rfl (fun w h Y=>PySem.W.kIn_of Y) ?F
 case F =>
  intro w mg fa h KX hG hmg;exact G.all_mk (C4:=37) (C5:=49) (C7:=61) (CJ:=24) KX hG hmg (G.af 222) (G.af 229) (G.af 272) (G.af 279) (G.af 155 "notejar.notes" 373) (G.af 170 "notejar.jars" 411) (G.af 165 "notejar.jars" 411) (G.af 75 "notejar.kinds" 255) (G.af 108 "notejar.asks" 316) (G.af 115 "notejar.asks" 316) (G.af 68 "notejar.kinds" 255) (G.af 89 "notejar.names" 280) (G.af 94 "notejar.names" 280) (G.af 122 "notejar.giving" 334) (G.af 101 "notejar.paths" 303) (G.af 134 "notejar.giving" 334) (G.af 82 "notejar.kinds" 255) (G.af 127 "notejar.giving" 334) (G.af 148 "notejar.notes" 373) (G.af 160 "notejar.jars" 411) (G.af 284) (G.af 236) (G.af 248) (G.af 260) (G.af 177 "notejar.jars" 411) (G.af 184 "notejar.texts" 440) (G.af 189 "notejar.texts" 440) (G.af 141 "notejar.giving" 334) (G.af 215 "notejar.texts" 440) (G.af 208 "notejar.texts" 440) (G.af 201 "notejar.texts" 440) (G.af 194 "notejar.texts" 440) (G.af 267) (G.af 291) (by kernel_rfl) (by kernel_rfl)
#print axioms PySem.Challenge.cw_notejar_k81_whole_read_holds
