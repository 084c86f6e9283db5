import PyProof.Rows.All
import Wide.All
import OpenK.AllK
import Wide.FinOn
import Lean
import PyProof.EqAt
import PyProof.EqKinds
import PyProof.TupleCall
import PySem.SetTable
import PyProof.SetKind
import PyProof.TupleKey
import PyProof.DictKinds
import PyProof.Rows.SetFrom
import PyProof.ZipIter
import PyProof.Conv_int
import PyProof.FactsAll.str
import PyProof.EnumIter
import PyProof.Rows.SortStr
import PyProof.Rows.SortWalk
import PyProof.Rows.MinMaxN
import PyProof.ConsumeWalk
import PyProof.CollectWalk
import PyProof.WalksMore
import PyProof.CollectStr
import PyProof.Rows.SortShellK
import PyProof.Rows.SortRunsK
import PyProof.SeqI3
import KE.KSortKey
import PyProof.Rows.CallKwBuiltin
import PyProof.SumAny
import KE.KLam
import PySem.Challenge.RW_notejar_k52_sent
open Option renaming some → a_, none → ck, isSome_iff_exists → Hw, bind_eq_some_iff → HG, map_some → HU, all_some → HV, map_eq_some_iff → IW, getD_none → My
open PySem.Str renaming ofString → b_, empty → M0
open PySem.W renaming Frag → c_, keepIn → F4, kia_one → Gv, hideAll_none → GI, emptyDict → GP, nsIn → GY, mg_of → G_, instObj → Hk, kitOne → HE, of_hideAll → HM, fnOf → HN, cellsFrom_some → HP, kla_obj → HR, findIn → IQ, OpenLaw → Jt, hideAll_get → Ju, codeIn → JF, callWith_K → JG, methodObj → Ka, absHeap → KN, lookIn → Lg, kla_fn → Lh, kIn_of → Li, excIn → LH, WalkO → LJ, codeRec_of → LP, specialIn → L6, looks_findIn → L7, kitx_list → L8, kitx_dict → L9, plainGet → Mn, hideAll → MH, through → ML, openEnds → MQ, kHook → MZ, isFn → M3
open PySem renaming Value → d_, Shared → ge, wpAny_bind → g_, starEach → h_, Addr → i_, wpAny_pure → j_, Program → n_, mainGlobals → rl, wpAny → u_, Around → w_, model → x_, World → y_, Expr → C_, Heap → FF, behindInMarks → FL, backTo → FP, foldedSetIterable → FR, wpAny_mono → FU, cellsFrom → F5, FuncData → F8, compareOp → F9, bootBuiltins → Go, wpAny_Call_Name_kw → Gq, assignEach → Gz, keywordEach → GB, Scope → GK, wpAny_holding → GL, Stmt → GT, binaryOp → GV, swapsWith → G7, closureFor → G8, codeAny_builtin → Hj, wpAny_truthy_bool → Hn, backToKw → Ho, mem_of_lookup → Hx, Keyword → Hy, wpAny_getItem_str_slice → HC, NameKind → HF, codeAny_mono → HK, call_meets → HL, attributeBase → HY, wpAny_setState_of → HZ, wpAny_newObj_type → H4, codeAny → H_, wpAny_newFunctionEnv_cells → Ie, wpAny_passesOwn → Ix, callerA → Iy, Builtin → IA, sliceBounds → IG, wpAny_setFlight_noneW → Jb, typeIs_str → Jd, Params → Je, BindsTo → Ji, sizeLine_eq → Jl, codeAny_call_builtin → Jm, post_val_or_str → Jr, letOwnedTupleGo → Js, wpAny_typeOf → Jy, wpAny_call → JE, GenState → JK, wpAny_pyIter_list → JZ, wpAny_loadPart_at → J0, slot_list_getitem → J_, wpAny_getItem_list_slice → Kh, wpAny_comprehension_free → Ki, wpAny_attempt → Kj, setSearchFrom → Kk, assign → Kl, wpAny_forIn_list → Km, wpAny_callSpecial?_slot → Kn, noFill_tuple_add → Ko, codeAmong → Kp, Model → Kr, wpAny_rule → KH, notedBy → KI, getItem → KM, IsPart → KQ, wpAny_execs_nil → K0, importedModules → K1, wpAny_eqIsQuiet_tuple → K6, codeAny_call_function → K7, wpAny_field → La, unsupported → Lb, newFunctionEnv → Lc, lookup_relabel_local → Ld, isCodeTable → Le, bindArgs → Lf, treeTable → Lu, PassesOwn → Lv, wpAny_newList → LD, seq_tuple_add → LF, evalPart_none → LG, call → LO, Result → LS, list_append → LZ, concat_meets → L4, compEnvC → L5, noteFrame → Mm, TriplesOk → Mr, Thread → Ms, Fin → Mx, subscripted → ME, strIterType → MF, spliced → MK, rawInt → MM, boot_len → MN, bindL → MO, bindC → MP
open Bool renaming true → e_, false → f_, and_eq_true → l_, false_ne_true → q_, false_eq_true → B_, eq_iff_iff → Gp, and_eq_true_iff → GJ, not_eq_true' → Ib, not_true → Iw, not_false → JW, and_false → Lq
open PySem.Heap renaming get?_push_of_some → k_, lt_size → v_, get?_push_size → z_, get?_update_ne → GS, size_push → G6, get?_none_of_le → Jn, SameBut → JB, get?_update_other → KR, size_update → Mw
open Nat renaming le_refl → m_, lt_of_lt_of_le → D_, ne_of_lt → FM, eq_of_beq_eq_true → FN, le_trans → F6, zero_le → Gd, le_of_ble_eq_true → GC, lt_irrefl → GO, ne_of_beq_eq_false → G9, le_of_lt_succ → Hq, beq → Hz, zero_add → Ik, le_of_lt → Il, le_of_eq → Im, not_lt_zero → IC, succ_pos → IY, mod_lt → JS, lt_succ_of_lt → Kf, lt_succ_self → Ky, add_sub_cancel_left → Kz, ne_of_gt → KU, ble → KW, le_succ → Lp, succ_mul → Me, mul_comm → Mf, lt_trans → Mg, min_le_right → Mz
open List renaming mem_cons_of_mem → on, replicate → o_, range → pi, mem_cons_self → p_, mem_append_right → s_, size_toArray → uk, getElem?_eq_getElem → xy, getElem?_eq_some_iff → E_, mem_cons → FB, mem_append_left → FH, map_cons → FV, getElem?_map → FY, getElem?_set_self → F7, lookup_cons → F_, mem_append → Ga, length_map → Gb, getElem?_set_ne → Gf, mem_filter → Gj, mem_range → Gr, length_append → Gs, not_mem_nil → Gx, all_eq_true → Gy, replicate_succ → GA, length_filter_le → GD, append_nil → GE, mem_singleton → GG, getElem?_append_right → GR, length_set → GU, getElem?_eq_none → GW, pairwise_cons → GX, mem_map → G0, all_cons → G4, length_cons → Hc, lookup_append → Hd, length_replicate → He, getElem?_append_left → Hi, reverse_cons → Hr, flatten_cons → Hs, filterMap_cons → HB, length_eq_zero_iff → HH, getElem?_replicate → HI, filter_cons_of_neg → HJ, nodup_cons → HW, map_append → HX, append_assoc → Ia, getD_eq_getElem?_getD → Ih, map_map → Io, getElem?_range → Ir, of_mem_zip → ID, filterMap_map → IE, getElem?_cons_succ → IL, getD → IM, filter_cons_of_pos → IN, length_range → IZ, countP_cons → Jg, any_cons → Jk, mem_of_getElem? → Jq, toList_toArray → Jw, perm_append_singleton → JU, mem_filterMap → JV, pairwise_iff_getElem → JX, getElem?_eq_none_iff → JY, length_take → KB, getElem_mem → KC, drop_length → KD, any_eq_true → KG, range_succ_eq_map → KY, pairwise_lt_range → KZ, nil_append → K2, foldl_cons → K3, length_singleton → K8, getElem?_toArray → K9, contains_iff_mem → K_, reverse_append → LC, foldl → LW, pairwise_map → Mh, ext_getElem? → Mi, length_drop → MB, getElem_inj → MC, cons_append → MD, range_succ → MJ
open PySem.Value renaming type → r_, ref → A_, none → FX, bool → Gk, builtin → GM, str → Ii, isStrOf_shape → Lx, isStrOf → LK, int → Mp
open Decidable renaming decide → t_
open PySem.SetTable renaming insertAt → FJ, insertAt_perm → KP, grown → Lj, turns → LL, leap → LM, tooFull → Mt, advance → Mu, runEnd → MR, fill → MX
open False renaming elim → FK
open PySem.Builtin.Str renaming occurrences → FQ, strKind → LA
open Option.some renaming inj → F0, injEq → IV
open PySem.Obj renaming mapSeq → Gc, mk → Hu, putSet → JJ
open PySem.PyData renaming eqv → Ge, canLay0 → Gm, canLayAll0 → GQ, eqvAll → Hb, depthAll → Iz, depth → IR
open PyProof.Rows renaming callWith_type1 → Gg, slot_tuple_getitem → Gh, seqObj → Gw, envOfC → Hh, boot_isinstance → HS, get?_update_seq → IB, SortSt → IT, AllBare → IU, callWith_builtin1 → Jf, listUpdate_at → Jj, arrOf → Jv, IntsAre → Ke, pendingOf → Kw, subscriptTail_builtinR → KS, listItems_at → KT, SortKind → Lo, subscriptTail → LN, failedOf → Mc, Keyed → Md, IsTup → MT
open Array renaming length_toList → Gi, getElem?_eq_some_iff → Gu, mem_toList_iff → Ht, getD_eq_getD_getElem? → Ic, forIn_toList → IF, size_map → I_, size_append → Ja, getElem?_toList → Jc, replicate → K5, getElem?_map → LX, append_assoc → LY, toList_push → Mj
open PySem.ClassData renaming mk → GF
open Int renaming emod_lt_of_pos → GH, emod_nonneg → Hm
open PySem.NameKind renaming free → GN, cell → GZ
open PySem.Txt renaming startswith → G5, partition → Ha, endswith → Ij, split → IH, slice_le → KO, join → L_, slice → Mq
open PySem.Builtin.Slice renaming slicePlaces → Hg, sliceAdjust → Iq, sliceApplied → JR
open PySem.Data renaming dict → Hl, cls → JM, fields → Ll
open PySem.Builtin.Tuple renaming tupleExact → Hv, tupleItemsOf → JQ
open PySem.F renaming called_set → HQ, excBase_ValueError → Ig, args_tuple_add_2 → Iu, plainAttrs_list → II, entry_tuple_add → IJ, slot_str_split → IP, slot_tuple_add → IS, slot_list_append → Jo, args_str_split_2 → JL, entry_str_split → Kb, slot_str_partition → Ks, slot_list_index → Kt, slot_list_count → Ku, args_list_append_2 → Lk, entry_list_append → Lz
open PySem.Builtin.List renaming listTooLong → Iv, listExtendWith → JC
open PyProof.Rows.F renaming plain_set_update_loop → IK, entry_set_update_loop → Kx
open Ne renaming symm → IX
open PySem.SetTable.layClean renaming free → Jh
open PySem.Around renaming under_plainId → Jp, frames_deeper → Ln, under → Mb
open PySem.W.Fast renaming tw11892475500146522536 → Jz, tw10156331382660048174 → JA, tw6613529449190102663 → JH
open True renaming intro → JD
open PySem.Code renaming quiet_builtin → JN, isFrame → Ma
open PySem.Calls renaming spliced_cons → JO, Name_function_global → JP, spliced_nil → Kc, evalArgs_plain → Lm
open List.Pairwise renaming nil → Kg
open PySem.SetTable.probe renaming go → Kq
open PySem.Builtin.ObjectAttr renaming find → Kv, dataDescriptor? → LV, bindTo → MV
open ForInStep renaming yield → K4
open Sum renaming inr → Lr, inl → Ls
open LawfulBEq renaming eq_of_beq → Lw
open PySem.Heap.SameBut renaming update → Ly
open PySem.SeqAt.EqAt renaming str_int → LQ, int_str → LR
open PySem.Heap.IsSliceOf renaming new → LU
open Std.Legacy renaming Range → Ml
open PySem.IsL renaming update → Mv
open StateT renaming run_pure → MG
open PySem.Builtin.Frozenset renaming updateFrom → MI, newClass → MS
open List.Perm renaming swap → MU
open PySem.Shared renaming TypeIs → MW
open Function renaming comp → MY
open PyProof.Rows.IsTup renaming new → M1
open PySem.SetTable.below renaming go → M4
set_option maxHeartbeats 4000000
set_option Elab.async false
namespace TR
open PySem PySem.W
def gD (tb:String→Option IA) (p:n_) (w:y_) (n₀:Nat) (ann:Option d_):Nat→SharedT→Ms→Option SharedT
 | 0,_,_=>ck
 | n + 1,s,t=>match ML t with
  | true=>a_ s
  | false=>match stepOk n₀ ann t with
   | false=>ck
   | true=>match stepT (denote tb) p w s t with
    | some (s',t')=>gD tb p w n₀ ann n s' t'
    | none=>ck
def ij:List Obj→BT→Nat→Option (BT×Nat)
 | [],t,n=>a_ (t,n)
 | o :: os,t,n=>match ((t.ins n o).get n).isSome with
  | true=>ij os (t.ins n o) (n + 1)
  | false=>ck
def rO (tb:String→Option IA) (p:n_) (w:y_) (N:Nat):Option ge:=(fencedOpening tb p w N).bind fun s₀=>match s₀.heap.isNs rl && s₀.gens.size == 0 with
 | true=>(ij s₀.heap.objs.toList .nil 0).bind fun x=>(gD tb p w s₀.heap.objs.size (s₀.heap.nsMap rl "__annotations__") N ⟨x.1,x.2,s₀.heap.life,s₀.gens,s₀.drawn,s₀.toks,s₀.os⟩ (topStub p)).bind fun sT=>match staticsOk (K1 p.main.body) s₀.heap sT.abs.heap && namesBound p sT.abs.heap && gensDone sT.abs && laidKept s₀.heap sT.abs.heap with
  | true=>a_ sT.abs
  | false=>ck
 | false=>ck
section
variable {tb:String→Option IA} {p:n_} {w:y_} {n₀:Nat} {ann:Option d_}
theorem g7:∀ (n:Nat) (s:SharedT) (t:Ms) (s':SharedT),gD tb p w n₀ ann n s t=a_ s'→topRun tb p w n₀ ann n s.abs t=a_ s'.abs
 | 0,_,_,_,h=>by cases h
 | n + 1,s,t,s',h=>by
  unfold gD at h
  unfold topRun
  cases ht:ML t with
  | true=>rw [ht] at h; cases h; rfl
  | false =>
   rw [ht] at h
   cases hk:stepOk n₀ ann t with
   | false=>rw [hk] at h; cases h
   | true =>
    rw [hk] at h
    cases hs:stepT (denote tb) p w s t with
    | none=>rw [hs] at h; cases h
    | some x =>
     obtain ⟨s1,t1⟩:=x
     rw [hs] at h
     dsimp only at h ⊢
     rw [stepT_spec hs]
     exact g7 n s1 t1 s' h
theorem ik {life:Life}:∀ (os:List Obj) (t:BT) (n:Nat) (t':BT) (n':Nat),ij os t n=a_ (t',n')→(KN t' n' life).objs=(KN t n life).objs ++ os.toArray
 | [],t,n,t',n',h=>by cases h; simp
 | o :: os,t,n,t',n',h=>by
  unfold ij at h
  cases e:((t.ins n o).get n).isSome with
  | false=>rw [e] at h; cases h
  | true =>
   rw [e] at h
   rw [ik os _ _ _ _ h,absHeap_ins e]
   show (KN t n life).objs.push o ++ os.toArray=_
   simp
theorem nQ {N:Nat} {s:ge} (h:rO tb p w N=a_ s):MQ tb p w N=a_ s:=by
 unfold rO at h
 unfold MQ
 obtain ⟨s₀,h0,h1⟩:=HG.mp h
 rw [h0]
 show topFrom tb p w N s₀=a_ s
 unfold topFrom
 cases hc:(s₀.heap.isNs rl && s₀.gens.size == 0) with
 | false=>rw [hc] at h1; cases h1
 | true =>
  rw [hc] at h1
  dsimp only at h1 ⊢
  obtain ⟨⟨t',n'⟩,h2,h3⟩:=HG.mp h1
  obtain ⟨sT,h4,h5⟩:=HG.mp h3
  have e:=ik (life:=s₀.heap.life) _ _ _ _ _ h2
  have e2:KN t' n' s₀.heap.life=s₀.heap:=by
   have e3:(KN t' n' s₀.heap.life).objs=s₀.heap.objs:=by
    rw [e]
    show (KN BT.nil 0 s₀.heap.life).objs ++ s₀.heap.objs.toList.toArray=_
    simp [KN,BT.list]
   obtain ⟨⟨objs,life⟩,g,d,k,os⟩:=s₀
   show Heap.mk _ _=Heap.mk _ _
   exact congrArg (Heap.mk · life) e3
  have r:=g7 _ _ _ _ h4
  have ea:(SharedT.abs ⟨t',n',s₀.heap.life,s₀.gens,s₀.drawn,s₀.toks,s₀.os⟩)=s₀:=by
   show Shared.mk (KN t' n' s₀.heap.life) _ _ _ _=s₀
   rw [e2]
  rw [ea] at r
  rw [r]
  exact h5
theorem oO {α:Type} {N:Nat} {f:ge→α} {a:α} (h:(rO tb p w N).map f=a_ a):(MQ tb p w N).map f=a_ a:=by
 obtain ⟨s,h1,h2⟩:=IW.mp h
 rw [nQ h1]
 exact congrArg a_ h2
end
noncomputable def BG (tb:String→Option IA) (p:n_) (w:y_) (n₀:Nat) (ann:Option d_) (n:Nat):SharedT→Ms→Option SharedT :=
 @Nat.rec (fun _=>SharedT→Ms→Option SharedT) (fun _ _=>ck) (fun _ ih s t=>@Bool.rec (fun _=>Option SharedT) (@Bool.rec (fun _=>Option SharedT) ck (@Option.rec (SharedT×Ms) (fun _=>Option SharedT) ck (fun x=>ih x.1 x.2) (JA (Jz tb) p w s t)) (JH n₀ ann t)) (a_ s) (ML t)) n
theorem oP {tb:String→Option IA} {p:n_} {w:y_} {n₀:Nat} {ann:Option d_}:∀ (n:Nat) (s:SharedT) (t:Ms),BG tb p w n₀ ann n s t=gD tb p w n₀ ann n s t
 | 0,_,_=>rfl
 | n + 1,s,t=>by
  show @Bool.rec (fun _=>Option SharedT) (@Bool.rec (fun _=>Option SharedT) ck (@Option.rec (SharedT×Ms) (fun _=>Option SharedT) ck (fun x=>BG tb p w n₀ ann n x.1 x.2) (JA (Jz tb) p w s t)) (JH n₀ ann t)) (a_ s) (ML t)=_
  unfold gD
  rw [← Fast.te10156331382660048174,← Fast.te11892475500146522536,← Fast.te6613529449190102663]
  cases ML t with
  | true=>rfl
  | false =>
   cases stepOk n₀ ann t with
   | false=>rfl
   | true =>
    cases stepT (denote tb) p w s t with
    | none=>rfl
    | some x=>exact oP n x.1 x.2
noncomputable def openQ (tb:String→Option IA) (p:n_) (w:y_) (N:Nat):Option ge:=(fencedOpening tb p w N).bind fun s₀=>match s₀.heap.isNs rl && s₀.gens.size == 0 with
 | true=>(ij s₀.heap.objs.toList .nil 0).bind fun x=>(BG tb p w s₀.heap.objs.size (s₀.heap.nsMap rl "__annotations__") N ⟨x.1,x.2,s₀.heap.life,s₀.gens,s₀.drawn,s₀.toks,s₀.os⟩ (topStub p)).bind fun sT=>match staticsOk (K1 p.main.body) s₀.heap sT.abs.heap && namesBound p sT.abs.heap && gensDone sT.abs && laidKept s₀.heap sT.abs.heap with
  | true=>a_ sT.abs
  | false=>ck
 | false=>ck
theorem openQ_map {tb:String→Option IA} {p:n_} {w:y_} {α:Type} {N:Nat} {f:ge→α} {a:α} (h:(openQ tb p w N).map f=a_ a):(MQ tb p w N).map f=a_ a:=by
 refine oO ?_
 unfold openQ at h
 unfold rO
 simp only [oP] at h
 exact h
end TR
namespace G
open PySem PySem.W PyProof.Rows
noncomputable def hT (i:Nat):GT:=PySem.Challenge.pw_notejar_k52_sent.main.body.getD i (.Pass ⟨0,0,0,0⟩)
noncomputable def hA (s:GT):Arguments:=match s with
 | .FunctionDef _ a _ _ _ _ _ _ _ _=>a
 | _=>{ posonlyargs:=[],args:=[],vararg:=ck,kwonlyargs:=[],kw_defaults:=[],kwarg:=ck,defaults:=[] }
noncomputable def hB (s:GT):List GT:=match s with
 | .FunctionDef _ _ b _ _ _ _ _ _ _=>b
 | _=>[]
noncomputable def hS (s:GT):GK:=match s with
 | .FunctionDef _ _ _ _ _ _ sc _ _ _=>sc
 | _=>{ kind:=.function,names:=[],isGenerator:=f_,isCoroutine:=f_ }
noncomputable abbrev kS (s:String) (t:Nat):d_:=.str (b_ s) t
noncomputable abbrev kR (a:Nat):d_:=.ref a
noncomputable abbrev kI (i:Int) (t:Nat):d_:=.int i t
noncomputable abbrev kE (P:Je) (s:String) (t:Nat) (v:d_):DictEntry:=⟨PySem.PyData.keyHash P (b_ s),.str (b_ s) t,v⟩
noncomputable def kF (x:String) (i:Nat) (m:String) (t c:Nat):Obj:=Hu (r_ "function") ck (Data.func (fnOf (b_ x) (b_ x) (hA (hT i)) (hB (hT i)) (hS (hT i)) .none FX FX (kS m t) ck (kR c) FX)) #[]
noncomputable def kC (x:String) (a b c:Nat) (d e f:Int) (g:Nat) (h:Int) (i j:Nat) (k l:Int) (m:Nat):Obj:=Hu (r_ "code") ck (Ll #[kS x a,kS x b,kS "/claim/cut.py" c,kI d 0,kI e 0,kI 0 0,kI 0 0,kI f 0,kR g,Gk e_,kI h 0,kR i,FX,FX,FX,kR j,kI k 0,kI l 0,kS "/claim/cut.py" m]) #[]
noncomputable def kD (x:String) (a b c:Nat) (d e f:Int) (g:Nat) (h:Int) (i u v j:Nat) (k l:Int) (m:Nat):Obj:=Hu (r_ "code") ck (Ll #[kS x a,kS x b,kS "/claim/cut.py" c,kI d 0,kI e 0,kI 0 0,kI 0 0,kI f 0,kR g,Gk e_,kI h 0,kR i,FX,kR u,kR v,kR j,kI k 0,kI l 0,kS "/claim/cut.py" m]) #[]
noncomputable def KKa (P:Je):Frag:=[(2,Hu FX ck (Hl #[]) #[]),
 (3,Hu (r_ "dict") ck (Hl #[kE P "__name__" 165 (kS "law_notejar_k52_sent" 679),kE P "__doc__" 166 FX,kE P "__package__" 167 FX,kE P "__loader__" 168 (GM "__main__.__loader__#opaque"),kE P "__spec__" 169 FX,kE P "__annotations__" 170 (kR 6),kE P "__builtins__" 171 (kR 4),kE P "__file__" 173 (kS "/claim/cut.py" 172),kE P "__cached__" 174 FX,kE P "JarError" 206 (kR 24),kE P "NoName" 222 (kR 37),kE P "NoTable" 238 (kR 49),kE P "NoPath" 254 (kR 61),kE P "NoAsk" 270 (kR 73),kE P "NoNote" 286 (kR 85),kE P "NoJar" 302 (kR 97),kE P "NoNumber" 318 (kR 109),kE P "is_text_of" 326 (kR 116),kE P "is_whole_number" 335 (kR 123),kE P "is_tuple_of" 343 (kR 130),kE P "FIGURES" 347 (kS "0123456789" 346),kE P "LABEL_SIGNS" 349 (kS "abcdefghijklmnopqrstuvwxyz0123456789-" 348),kE P "LONGEST_LABEL" 351 (kI 8 350),kE P "MOST_LABELS" 353 (kI 5 352),kE P "MOST_RULES" 355 (kI 8 354),kE P "is_label" 362 (kR 137),kE P "is_name" 368 (kR 142),kE P "is_rule" 375 (kR 149),kE P "is_table" 381 (kR 154),kE P "need_table" 388 (kR 161),kE P "lies_within" 396 (kR 168),kE P "ends_longest_first" 402 (kR 173),kE P "behind_first_dot" 409 (kR 180),kE P "is_told_open" 417 (kR 187),kE P "find_open_end" 427 (kR 194),kE P "find_own_end" 438 (kR 201),kE P "PATH_SIGNS" 442 (kS "abcdefghijklmnopqrstuvwxyz0123456789-_./" 441),kE P "LONGEST_PATH" 444 (kI 20 443),kE P "is_path" 451 (kR 208),kE P "lies_under" 459 (kR 215),kE P "LAST_MOMENT" 463 (kI 9999 462),kE P "ASK_SAFE" 465 (kI 0 464),kE P "ASK_HOUSE" 467 (kI 1 466),kE P "ASK_PATH" 469 (kI 2 468),kE P "ASK_ORIGIN" 471 (kI 3 470),kE P "ASK_PARTS" 473 (kI 4 472),kE P "is_moment" 480 (kR 222),kE P "is_moment_or_none" 487 (kR 229),kE P "need_moment" 494 (kR 236),kE P "is_ask" 501 (kR 243),kE P "need_ask" 508 (kR 250),kE P "comes_from_near" 519 (kR 257),kE P "NOTE_NAME_SIGNS" 523 (kS "abcdefghijklmnopqrstuvwxyzABCDEFGHIJKLMNOPQRSTUVWXYZ0123456789-_" 522),kE P "LONGEST_NOTE_NAME" 525 (kI 10 524),kE P "NO_WORTH_SIGNS" 527 (kS ";,=" 526),kE P "LONGEST_WORTH" 529 (kI 12 528),kE P "is_note_name" 536 (kR 264),kE P "is_worth" 542 (kR 269),kE P "is_reach" 549 (kR 276),kE P "NOTE_NAME" 553 (kI 0 552),kE P "NOTE_WORTH" 555 (kI 1 554),kE P "NOTE_HOUSE" 557 (kI 2 556),kE P "NOTE_EXACT" 559 (kI 3 558),kE P "NOTE_PATH" 561 (kI 4 560),kE P "NOTE_ENDS" 563 (kI 5 562),kE P "NOTE_SAFE" 565 (kI 6 564),kE P "NOTE_REACH" 567 (kI 7 566),kE P "NOTE_MADE" 569 (kI 8 568),kE P "NOTE_USED" 571 (kI 9 570),kE P "NOTE_PARTS" 573 (kI 10 572),kE P "is_note" 580 (kR 283),kE P "key" 587 (kR 290),kE P "has_ended" 595 (kR 297),kE P "is_for" 603 (kR 304),kE P "goes" 613 (kR 311),kE P "MOST_NOTES" 617 (kI 20 616),kE P "is_jar" 623 (kR 316),kE P "is_by_made" 629 (kR 321),kE P "has_no_key_twice" 635 (kR 326),kE P "need_jar" 642 (kR 333),kE P "need_sending" 652 (kR 340),kE P "sent" 658 (kR 345),kE P "sent_text" 664 (kR 350),kE P "used" 670 (kR 355),kE P "used_at" 678 (kR 362),kE P "_law_cell" 688 (kR 369),kE P "_law_drawn" 698 (kR 376),kE P "_law_name" 707 (kR 383),kE P "_law_table" 713 (kR 388),kE P "_law_path" 722 (kR 395),kE P "_law_ask" 731 (kR 402),kE P "_law_ends" 737 (kR 407),kE P "_law_open" 743 (kR 412),kE P "_law_own" 749 (kR 417),kE P "_law_within" 757 (kR 424),kE P "_law_under" 765 (kR 431),kE P "_law_near" 773 (kR 438),kE P "_law_why" 791 (kR 445),kE P "_law_made" 813 (kR 452),kE P "_law_goes" 823 (kR 459),kE P "_law_jar" 829 (kR 464),kE P "_law_refused" 837 (kR 471),kE P "_law_told" 849 (kR 478),kE P "_law_known_one" 855 (kR 483),kE P "_law_stands" 861 (kR 488),kE P "law" 868 (kR 495)] 106) #[]),
 (23,Hu (r_ "dict") ck (Hl #[kE P "__module__" 196 (kS "notejar.errors" 187),kE P "__firstlineno__" 200 (kI 2 199),kE P "__static_attributes__" 201 (kR 22),kE P "__weakref__" 203 (kR 25),kE P "__doc__" 204 FX] 3) #[]),
 (24,Hu (r_ "type") ck (JM (GF (b_ "JarError") [r_ "ValueError"] [kR 24,r_ "ValueError",r_ "Exception",r_ "BaseException",r_ "object"] 23 (b_ "JarError") e_ [] [kR 37,kR 49,kR 61,kR 73,kR 85,kR 97,kR 109] f_ ck f_)) #[a_ (kR 15),ck,a_ (kS "JarError" 189),a_ (kS "JarError" 197),a_ (GM "ValueError.__new__"),a_ (Gk e_)]),
 (36,Hu (r_ "dict") ck (Hl #[kE P "__module__" 214 (kS "notejar.errors" 187),kE P "__firstlineno__" 218 (kI 4 217),kE P "__static_attributes__" 219 (kR 35),kE P "__doc__" 220 FX] 2) #[]),
 (37,Hu (r_ "type") ck (JM (GF (b_ "NoName") [kR 24] [kR 37,kR 24,r_ "ValueError",r_ "Exception",r_ "BaseException",r_ "object"] 36 (b_ "NoName") e_ [] [] f_ ck f_)) #[a_ (kR 28),ck,a_ (kS "NoName" 207),a_ (kS "NoName" 215),a_ (GM "ValueError.__new__"),a_ (Gk e_)]),
 (48,Hu (r_ "dict") ck (Hl #[kE P "__module__" 230 (kS "notejar.errors" 187),kE P "__firstlineno__" 234 (kI 6 233),kE P "__static_attributes__" 235 (kR 47),kE P "__doc__" 236 FX] 2) #[]),
 (49,Hu (r_ "type") ck (JM (GF (b_ "NoTable") [kR 24] [kR 49,kR 24,r_ "ValueError",r_ "Exception",r_ "BaseException",r_ "object"] 48 (b_ "NoTable") e_ [] [] f_ ck f_)) #[a_ (kR 40),ck,a_ (kS "NoTable" 223),a_ (kS "NoTable" 231),a_ (GM "ValueError.__new__"),a_ (Gk e_)]),
 (60,Hu (r_ "dict") ck (Hl #[kE P "__module__" 246 (kS "notejar.errors" 187),kE P "__firstlineno__" 250 (kI 8 249),kE P "__static_attributes__" 251 (kR 59),kE P "__doc__" 252 FX] 2) #[]),
 (61,Hu (r_ "type") ck (JM (GF (b_ "NoPath") [kR 24] [kR 61,kR 24,r_ "ValueError",r_ "Exception",r_ "BaseException",r_ "object"] 60 (b_ "NoPath") e_ [] [] f_ ck f_)) #[a_ (kR 52),ck,a_ (kS "NoPath" 239),a_ (kS "NoPath" 247),a_ (GM "ValueError.__new__"),a_ (Gk e_)]),
 (72,Hu (r_ "dict") ck (Hl #[kE P "__module__" 262 (kS "notejar.errors" 187),kE P "__firstlineno__" 266 (kI 10 265),kE P "__static_attributes__" 267 (kR 71),kE P "__doc__" 268 FX] 2) #[]),
 (73,Hu (r_ "type") ck (JM (GF (b_ "NoAsk") [kR 24] [kR 73,kR 24,r_ "ValueError",r_ "Exception",r_ "BaseException",r_ "object"] 72 (b_ "NoAsk") e_ [] [] f_ ck f_)) #[a_ (kR 64),ck,a_ (kS "NoAsk" 255),a_ (kS "NoAsk" 263),a_ (GM "ValueError.__new__"),a_ (Gk e_)]),
 (84,Hu (r_ "dict") ck (Hl #[kE P "__module__" 278 (kS "notejar.errors" 187),kE P "__firstlineno__" 282 (kI 12 281),kE P "__static_attributes__" 283 (kR 83),kE P "__doc__" 284 FX] 2) #[]),
 (85,Hu (r_ "type") ck (JM (GF (b_ "NoNote") [kR 24] [kR 85,kR 24,r_ "ValueError",r_ "Exception",r_ "BaseException",r_ "object"] 84 (b_ "NoNote") e_ [] [] f_ ck f_)) #[a_ (kR 76),ck,a_ (kS "NoNote" 271),a_ (kS "NoNote" 279),a_ (GM "ValueError.__new__"),a_ (Gk e_)]),
 (96,Hu (r_ "dict") ck (Hl #[kE P "__module__" 294 (kS "notejar.errors" 187),kE P "__firstlineno__" 298 (kI 14 297),kE P "__static_attributes__" 299 (kR 95),kE P "__doc__" 300 FX] 2) #[]),
 (97,Hu (r_ "type") ck (JM (GF (b_ "NoJar") [kR 24] [kR 97,kR 24,r_ "ValueError",r_ "Exception",r_ "BaseException",r_ "object"] 96 (b_ "NoJar") e_ [] [] f_ ck f_)) #[a_ (kR 88),ck,a_ (kS "NoJar" 287),a_ (kS "NoJar" 295),a_ (GM "ValueError.__new__"),a_ (Gk e_)]),
 (108,Hu (r_ "dict") ck (Hl #[kE P "__module__" 310 (kS "notejar.errors" 187),kE P "__firstlineno__" 314 (kI 16 313),kE P "__static_attributes__" 315 (kR 107),kE P "__doc__" 316 FX] 2) #[]),
 (109,Hu (r_ "type") ck (JM (GF (b_ "NoNumber") [kR 24] [kR 109,kR 24,r_ "ValueError",r_ "Exception",r_ "BaseException",r_ "object"] 108 (b_ "NoNumber") e_ [] [] f_ ck f_)) #[a_ (kR 100),ck,a_ (kS "NoNumber" 303),a_ (kS "NoNumber" 311),a_ (GM "ValueError.__new__"),a_ (Gk e_)]),
 (115,kC "is_text_of" 321 322 323 19 4 3 112 181 113 114 324 19 325),
 (116,kF "is_text_of" 10 "notejar.kinds" 319 115),
 (122,kD "is_whole_number" 327 328 329 25 3 3 117 181 118 119 120 121 333 25 334),
 (123,kF "is_whole_number" 11 "notejar.kinds" 319 122),
 (129,kD "is_tuple_of" 336 337 338 29 2 3 124 181 125 126 127 128 341 29 342),
 (130,kF "is_tuple_of" 12 "notejar.kinds" 319 129),
 (136,kD "is_label" 356 357 358 37 1 3 131 181 132 133 134 135 360 37 361),
 (137,kF "is_label" 19 "notejar.names" 344 136),
 (141,kC "is_name" 363 364 365 41 1 3 138 181 139 140 366 41 367),
 (142,kF "is_name" 20 "notejar.names" 344 141),
 (148,kD "is_rule" 369 370 371 48 1 3 143 181 144 145 146 147 373 48 374),
 (149,kF "is_rule" 21 "notejar.names" 344 148),
 (153,kC "is_table" 376 377 378 56 1 3 150 181 151 152 379 56 380),
 (154,kF "is_table" 22 "notejar.names" 344 153),
 (160,kD "need_table" 382 383 384 62 1 3 155 181 156 157 158 159 386 62 387),
 (161,kF "need_table" 23 "notejar.names" 344 160),
 (167,kD "lies_within" 389 390 391 65 2 3 162 181 163 164 165 166 394 65 395),
 (168,kF "lies_within" 24 "notejar.names" 344 167),
 (172,kC "ends_longest_first" 397 398 399 67 1 3 169 181 170 171 400 67 401),
 (173,kF "ends_longest_first" 25 "notejar.names" 344 172),
 (179,kD "behind_first_dot" 403 404 405 70 1 3 174 181 175 176 177 178 407 70 408),
 (180,kF "behind_first_dot" 26 "notejar.names" 344 179),
 (186,kD "is_told_open" 410 411 412 72 2 3 181 181 182 183 184 185 415 72 416),
 (187,kF "is_told_open" 27 "notejar.names" 344 186),
 (193,kD "find_open_end" 418 419 420 76 2 3 188 181 189 190 191 192 425 76 426),
 (194,kF "find_open_end" 28 "notejar.names" 344 193),
 (200,kD "find_own_end" 428 429 430 85 2 3 195 181 196 197 198 199 436 85 437),
 (201,kF "find_own_end" 29 "notejar.names" 344 200),
 (207,kD "is_path" 445 446 447 95 1 3 202 181 203 204 205 206 449 95 450),
 (208,kF "is_path" 33 "notejar.paths" 439 207),
 (214,kD "lies_under" 452 453 454 97 2 3 209 181 210 211 212 213 457 97 458),
 (215,kF "lies_under" 34 "notejar.paths" 439 214),
 (221,kD "is_moment" 474 475 476 110 1 3 216 181 217 218 219 220 478 110 479),
 (222,kF "is_moment" 42 "notejar.asks" 460 221),
 (228,kD "is_moment_or_none" 481 482 483 112 1 3 223 181 224 225 226 227 485 112 486),
 (229,kF "is_moment_or_none" 43 "notejar.asks" 460 228),
 (235,kD "need_moment" 488 489 490 114 1 3 230 181 231 232 233 234 492 114 493),
 (236,kF "need_moment" 44 "notejar.asks" 460 235),
 (242,kD "is_ask" 495 496 497 117 1 3 237 181 238 239 240 241 499 117 500),
 (243,kF "is_ask" 45 "notejar.asks" 460 242),
 (249,kD "need_ask" 502 503 504 121 1 3 244 181 245 246 247 248 506 121 507),
 (250,kF "need_ask" 46 "notejar.asks" 460 249),
 (256,kD "comes_from_near" 509 510 511 124 2 3 251 181 252 253 254 255 517 124 518),
 (257,kF "comes_from_near" 47 "notejar.asks" 460 256),
 (263,kD "is_note_name" 530 531 532 136 1 3 258 181 259 260 261 262 534 136 535),
 (264,kF "is_note_name" 53 "notejar.giving" 520 263),
 (268,kC "is_worth" 537 538 539 138 1 3 265 181 266 267 540 138 541),
 (269,kF "is_worth" 54 "notejar.giving" 520 268),
 (275,kD "is_reach" 543 544 545 142 1 3 270 181 271 272 273 274 547 142 548)]
noncomputable def KKl (P:Je):Frag:=[(276,kF "is_reach" 55 "notejar.giving" 520 275),
 (282,kD "is_note" 574 575 576 156 1 3 277 181 278 279 280 281 578 156 579),
 (283,kF "is_note" 68 "notejar.notes" 550 282),
 (289,kD "key" 581 582 583 162 1 3 284 181 285 286 287 288 585 162 586),
 (290,kF "key" 69 "notejar.notes" 550 289),
 (296,kD "has_ended" 588 589 590 164 2 3 291 181 292 293 294 295 593 164 594),
 (297,kF "has_ended" 70 "notejar.notes" 550 296),
 (303,kD "is_for" 596 597 598 166 2 3 298 181 299 300 301 302 601 166 602),
 (304,kF "is_for" 71 "notejar.notes" 550 303),
 (310,kD "goes" 604 605 606 170 4 3 305 181 306 307 308 309 611 170 612),
 (311,kF "goes" 72 "notejar.notes" 550 310),
 (315,kC "is_jar" 618 619 620 180 1 3 312 181 313 314 621 180 622),
 (316,kF "is_jar" 75 "notejar.jars" 614 315),
 (320,kC "is_by_made" 624 625 626 186 1 3 317 181 318 319 627 186 628),
 (321,kF "is_by_made" 76 "notejar.jars" 614 320),
 (325,kC "has_no_key_twice" 630 631 632 188 1 3 322 181 323 324 633 188 634),
 (326,kF "has_no_key_twice" 77 "notejar.jars" 614 325),
 (332,kD "need_jar" 636 637 638 191 1 3 327 181 328 329 330 331 640 191 641),
 (333,kF "need_jar" 78 "notejar.jars" 614 332),
 (339,kD "need_sending" 643 644 645 194 4 3 334 181 335 336 337 338 650 194 651),
 (340,kF "need_sending" 79 "notejar.jars" 614 339),
 (344,kC "sent" 653 654 655 199 4 3 341 181 342 343 656 199 657),
 (345,kF "sent" 80 "notejar.jars" 614 344),
 (349,kC "sent_text" 659 660 661 203 4 3 346 181 347 348 662 203 663),
 (350,kF "sent_text" 81 "notejar.jars" 614 349),
 (354,kC "used" 665 666 667 205 4 3 351 181 352 353 668 205 669),
 (355,kF "used" 82 "notejar.jars" 614 354),
 (361,kD "used_at" 671 672 673 208 2 3 356 181 357 358 359 360 676 208 677),
 (362,kF "used_at" 83 "notejar.jars" 614 361),
 (368,kD "_law_cell" 681 682 683 211 2 3 363 181 364 365 366 367 686 211 687),
 (369,kF "_law_cell" 85 "law_notejar_k52_sent" 679 368),
 (375,kD "_law_drawn" 689 690 691 215 3 3 370 181 371 372 373 374 696 215 697),
 (376,kF "_law_drawn" 86 "law_notejar_k52_sent" 679 375),
 (382,kD "_law_name" 699 700 701 219 2 3 377 181 378 379 380 381 705 219 706),
 (383,kF "_law_name" 87 "law_notejar_k52_sent" 679 382),
 (387,kC "_law_table" 708 709 710 223 2 3 384 181 385 386 711 223 712),
 (388,kF "_law_table" 88 "law_notejar_k52_sent" 679 387),
 (394,kD "_law_path" 714 715 716 226 2 3 389 181 390 391 392 393 720 226 721),
 (395,kF "_law_path" 89 "law_notejar_k52_sent" 679 394),
 (401,kD "_law_ask" 723 724 725 229 2 3 396 181 397 398 399 400 729 229 730),
 (402,kF "_law_ask" 90 "law_notejar_k52_sent" 679 401),
 (406,kC "_law_ends" 732 733 734 232 1 3 403 181 404 405 735 232 736),
 (407,kF "_law_ends" 91 "law_notejar_k52_sent" 679 406),
 (411,kC "_law_open" 738 739 740 235 2 3 408 181 409 410 741 235 742),
 (412,kF "_law_open" 92 "law_notejar_k52_sent" 679 411),
 (416,kC "_law_own" 744 745 746 242 2 3 413 181 414 415 747 242 748),
 (417,kF "_law_own" 93 "law_notejar_k52_sent" 679 416),
 (423,kD "_law_within" 750 751 752 246 2 3 418 181 419 420 421 422 755 246 756),
 (424,kF "_law_within" 94 "law_notejar_k52_sent" 679 423),
 (430,kD "_law_under" 758 759 760 248 2 3 425 181 426 427 428 429 763 248 764),
 (431,kF "_law_under" 95 "law_notejar_k52_sent" 679 430),
 (437,kD "_law_near" 766 767 768 250 2 3 432 181 433 434 435 436 771 250 772),
 (438,kF "_law_near" 96 "law_notejar_k52_sent" 679 437),
 (458,kD "_law_goes" 814 815 816 277 4 3 453 181 454 455 456 457 821 277 822),
 (459,kF "_law_goes" 99 "law_notejar_k52_sent" 679 458),
 (463,kC "_law_jar" 824 825 826 283 3 3 460 181 461 462 827 283 828),
 (464,kF "_law_jar" 100 "law_notejar_k52_sent" 679 463),
 (470,kD "_law_refused" 830 831 832 301 1 3 465 181 466 467 468 469 835 301 836),
 (471,kF "_law_refused" 101 "law_notejar_k52_sent" 679 470),
 (477,kD "_law_told" 838 839 840 308 5 3 472 181 473 474 475 476 847 308 848),
 (478,kF "_law_told" 102 "law_notejar_k52_sent" 679 477),
 (482,kC "_law_known_one" 850 851 852 313 1 3 479 181 480 481 853 313 854),
 (483,kF "_law_known_one" 103 "law_notejar_k52_sent" 679 482),
 (487,kC "_law_stands" 856 857 858 320 1 3 484 181 485 486 859 320 860),
 (488,kF "_law_stands" 104 "law_notejar_k52_sent" 679 487),
 (494,kD "law" 862 863 864 349 1 3 489 181 490 491 492 493 866 349 867),
 (495,kF "law" 105 "law_notejar_k52_sent" 679 494),
 (4,Hu (r_ "module") (a_ builtinsNs) Data.plain #[])]
noncomputable def KKb (P:Je):Frag:=KKl P ++ [(342,{ cls:=.none,data:=.fields #[] })]
noncomputable def KK (P:Je):Frag:=KKa P ++ KKb P
noncomputable def KAa:List i_:=[2,3,23,24,36,37,48,49,60,61,72,73,84,85,96,97,108,109,115,116,122,123,129,130,136,137,141,142,148,149,153,154,160,161,167,168,172,173,179,180,186,187,193,194,200,201,207,208,214,215,221,222,228,229,235,236,242,243,249,250,256,257,263,264,268,269,275]
noncomputable def KAb:List i_:=[276,282,283,289,290,296,297,303,304,310,311,315,316,320,321,325,326,332,333,339,340,344,345,349,350,354,355,361,362,368,369,375,376,382,383,387,388,394,395,401,402,406,407,411,412,416,417,423,424,430,431,437,438,458,459,463,464,470,471,477,478,482,483,487,488,494,495,4,342]
noncomputable def KA:List i_:=KAa ++ KAb
noncomputable def KL (P:Je):Frag:=KKa P ++ KKl P
theorem KL_in {P:Je} {h:FF} (X:(KK P).In h):(KL P).In h:=fun b o e=>X b o (by
 show List.lookup b (KKa P ++ (KKl P ++ _))=a_ o
 rw [← Ia,Hd,show List.lookup b (KKa P ++ KKl P)=a_ o from e]
 rfl)
theorem KT_in {P:Je} {h:FF} (X:(KK P).In h):h.get? 342=a_ { cls:=.none,data:=.fields #[] }:=X 342 _ (by kernel_rfl)
theorem KA_ok (P:Je):KA=(KK P).map (·.1):=by kernel_rfl
noncomputable def VQ:n_:=view PySem.Challenge.pw_notejar_k52_sent [105]
theorem hbr:PySem.Challenge.rw_notejar_k52_sent.row.prog.bare:=⟨rfl,rfl,rfl,rfl,rfl,by decide +kernel⟩
set_option maxRecDepth 100000 in
theorem hld (h:PySem.Challenge.rw_notejar_k52_sent.row.wellSaid=e_→PySem.Challenge.rw_notejar_k52_sent.row.Holds):PySem.Challenge.rw_notejar_k52_sent.Holds:=by
 w_on; o_law
 exact h (by assumption)
noncomputable def VL:List Str:=[b_ "JarError",b_ "NoName",b_ "NoTable",b_ "NoPath",b_ "NoAsk",b_ "NoNote",b_ "NoJar",b_ "NoNumber",b_ "is_text_of",b_ "is_whole_number",b_ "is_tuple_of",b_ "FIGURES",b_ "LABEL_SIGNS",b_ "LONGEST_LABEL",b_ "MOST_LABELS",b_ "MOST_RULES",b_ "is_label",b_ "is_name",b_ "is_rule",b_ "is_table",b_ "need_table",b_ "lies_within",b_ "ends_longest_first",b_ "behind_first_dot",b_ "is_told_open",b_ "find_open_end",b_ "find_own_end",b_ "PATH_SIGNS",b_ "LONGEST_PATH",b_ "is_path",b_ "lies_under",b_ "LAST_MOMENT",b_ "ASK_SAFE",b_ "ASK_HOUSE",b_ "ASK_PATH",b_ "ASK_ORIGIN",b_ "ASK_PARTS",b_ "is_moment",b_ "is_moment_or_none",b_ "need_moment",b_ "is_ask",b_ "need_ask",b_ "comes_from_near",b_ "NOTE_NAME_SIGNS",b_ "LONGEST_NOTE_NAME",b_ "NO_WORTH_SIGNS",b_ "LONGEST_WORTH",b_ "is_note_name",b_ "is_worth",b_ "is_reach",b_ "NOTE_NAME",b_ "NOTE_WORTH",b_ "NOTE_HOUSE",b_ "NOTE_EXACT",b_ "NOTE_PATH",b_ "NOTE_ENDS",b_ "NOTE_SAFE",b_ "NOTE_REACH",b_ "NOTE_MADE",b_ "NOTE_USED",b_ "NOTE_PARTS",b_ "is_note",b_ "key",b_ "has_ended",b_ "is_for",b_ "goes",b_ "MOST_NOTES",b_ "is_jar",b_ "is_by_made",b_ "has_no_key_twice",b_ "need_jar",b_ "need_sending",b_ "sent",b_ "sent_text",b_ "used",b_ "used_at",b_ "_law_cell",b_ "_law_drawn",b_ "_law_name",b_ "_law_table",b_ "_law_path",b_ "_law_ask",b_ "_law_ends",b_ "_law_open",b_ "_law_own",b_ "_law_within",b_ "_law_under",b_ "_law_near",b_ "_law_why",b_ "_law_made",b_ "_law_goes",b_ "_law_jar",b_ "_law_refused",b_ "_law_told",b_ "_law_known_one",b_ "_law_stands"]
theorem Ex {α β γ:Type} {o:Option α} {f:α→β} {g:α→γ} {a:β} {b:γ} (h1:o.map f=a_ a) (h2:o.map g=a_ b):o.map (fun s=>(f s,g s))=a_ (a,b):=by
 cases o with
 | none=>cases h1
 | some x=>cases h1; cases h2; rfl
set_option maxRecDepth 100000 in
theorem BH (w:y_):(TR.openQ Lu PySem.Challenge.pw_notejar_k52_sent w 7684).map (openSeen VQ VL (K1 PySem.Challenge.pw_notejar_k52_sent.main.body) (fun s=>recOk [] s) e_)=a_ (openGood VQ VL):=by kernel_rfl
set_option maxRecDepth 100000 in
theorem xN (w:y_):(TR.openQ Lu PySem.Challenge.pw_notejar_k52_sent w 7684).map (fun s=>KAa.map s.heap.get?)=a_ ((KKa w.params).map fun p=>a_ p.2):=by kernel_rfl
set_option maxRecDepth 100000 in
theorem xO (w:y_):(TR.openQ Lu PySem.Challenge.pw_notejar_k52_sent w 7684).map (fun s=>KAb.map s.heap.get?)=a_ ((KKb w.params).map fun p=>a_ p.2):=by kernel_rfl
theorem rP {α β γ:Type} {o:Option α} {f:α→β→γ} {A B:List β} {X Y:List γ} (h1:o.map (fun s=>A.map (f s))=a_ X) (h2:o.map (fun s=>B.map (f s))=a_ Y):o.map (fun s=>(A ++ B).map (f s))=a_ (X ++ Y):=by
 cases o with
 | none=>cases h1
 | some x=>cases h1; cases h2; simp
theorem BI (w:y_):(TR.openQ Lu PySem.Challenge.pw_notejar_k52_sent w 7684).map (fun s=>KA.map s.heap.get?)=a_ ((KK w.params).map fun p=>a_ p.2):=by
 show (TR.openQ Lu PySem.Challenge.pw_notejar_k52_sent w 7684).map (fun s=>(KAa ++ KAb).map s.heap.get?)=a_ ((KKa w.params ++ KKb w.params).map fun p=>a_ p.2)
 rw [HX]
 exact rP (f:=fun s:ge=>s.heap.get?) (xN w) (xO w)
theorem left:LeftO PySem.Challenge.pw_notejar_k52_sent VQ VL (fun s=>recOk [] s) (Hook.obs (MZ KK KA KA_ok)) (Hook.val (MZ KK KA KA_ok)) 7684:=fun w=>TR.openQ_map (Ex (BH w) (BI w))
end G
set_option Elab.async false
set_option linter.all false
set_option maxRecDepth 100000
namespace L2
open PySem PySem.Spec PyProof.Rows
abbrev Key:=Sum Int Str
def xP:Key→d_→Bool
 | .inl k,v=>Value.isInt k v
 | .inr x,v=>LK x v
def Ey (w:y_):Key→Int
 | .inl k=>hashInt k
 | .inr x=>hashStr w x
theorem bu:∀ {k:Key} {v:d_},xP k v=e_→(∃ i t,k=Ls i∧v=Mp i t)∨(∃ x t,k=Lr x∧v=Ii x t)
 | .inl i,v,h=>by
  obtain ⟨t,e⟩:=Value.isInt_shape (k:=i) (v:=v) h
  exact .inl ⟨i,t,rfl,e⟩
 | .inr x,v,h=>by
  obtain ⟨t,e⟩:=Lx (x:=x) (v:=v) h
  exact .inr ⟨x,t,rfl,e⟩
theorem xQ (a b:Int):t_ ((Ls a:Key)=Ls b)=(a == b):=by
 by_cases e:a=b
 · subst e; simp
 · have h:¬ (Ls a:Key)=Ls b:=fun q=>e (Sum.inl.inj q)
   rw [decide_eq_false h]
   exact (beq_eq_false_iff_ne.mpr e).symm
theorem xR (a b:Str):t_ ((Lr a:Key)=Lr b)=t_ (a=b):=by
 by_cases e:a=b
 · subst e; simp
 · have h:¬ (Lr a:Key)=Lr b:=fun q=>e (Sum.inr.inj q)
   rw [decide_eq_false h,decide_eq_false e]
theorem xS (a:Int) (b:Str):t_ ((Ls a:Key)=Lr b)=f_:=decide_eq_false (fun q=>nomatch q)
theorem xT (a:Str) (b:Int):t_ ((Lr a:Key)=Ls b)=f_:=decide_eq_false (fun q=>nomatch q)
def oQ (prog:n_) (w:y_):PySem.KeyKind prog w Key where
 is:=xP
 hash:=Ey w
 inj:=fun v a b ha hb=>by
  rcases bu ha with ⟨i,t,rfl,rfl⟩ | ⟨x,t,rfl,rfl⟩
  · rcases bu hb with ⟨j,u,rfl,e⟩ | ⟨y,u,rfl,e⟩
    · injection e with e1 _; rw [e1]
    · exact nomatch e
  · rcases bu hb with ⟨j,u,rfl,e⟩ | ⟨y,u,rfl,e⟩
    · exact nomatch e
    · injection e with e1 _; rw [e1]
 byValue:=fun k v h=>by
  rcases bu h with ⟨i,t,rfl,rfl⟩ | ⟨x,t,rfl,rfl⟩ <;> rfl
 pyHash:=fun hv h=>by
  rcases bu hv with ⟨i,t,rfl,rfl⟩ | ⟨x,t,rfl,rfl⟩
  · exact wpAny_pyHash_int h
  · exact wpAny_pyHash_str h
 eqBool:=fun hu hv h=>by
  rcases bu hu with ⟨i,t,rfl,rfl⟩ | ⟨x,t,rfl,rfl⟩
  · rcases bu hv with ⟨j,u,rfl,rfl⟩ | ⟨y,u,rfl,rfl⟩
    · rw [xQ] at h; exact wpAny_eqBool_int h
    · rw [xS] at h; exact LR i t y u _ _ _ _ h
  · rcases bu hv with ⟨j,u,rfl,rfl⟩ | ⟨y,u,rfl,rfl⟩
    · rw [xT] at h; exact LQ x t j u _ _ _ _ h
    · rw [xR] at h; exact wpAny_eqBool_str h
 «strs»:=fun k x t v h=>by
  rcases bu h with ⟨i,u,rfl,e⟩ | ⟨y,u,rfl,e⟩
  · exact nomatch e
  · injection e with e1 _
    subst e1
    cases v <;> rfl
inductive V where
 | non | bl (b:Bool) | int (i:Int) | str (x:Str) | byt (b:Array UInt8) | flt (b:UInt64) | ref (a:i_) | ty (n:String)
 deriving DecidableEq
def RelV:V→d_→Prop
 | .non,u=>u=FX
 | .bl b,u=>u=Gk b
 | .int i,u=>∃ t,u=Mp i t
 | .str x,u=>∃ t,u=Ii x t
 | .byt b,u=>∃ t,u=Value.bytes b t
 | .flt b,u=>∃ t,u=Value.float b t
 | .ref a,u=>u=A_ a
 | .ty n,u=>u=r_ n
abbrev Vals:List V→List d_→Prop:=Paired RelV
theorem Vals.length {xs:List V} {us:List d_} (r:Vals xs us):xs.length=us.length:=Paired.length r
theorem Vals.get:∀ {xs:List V} {us:List d_} {i:Nat} {x:V},Vals xs us→xs[i]?=a_ x→∃ u,us[i]?=a_ u∧RelV x u
 | _,_,_,_,.nil,e=>by simp at e
 | _,_,0,_,.cons r _,e=>by simp at e; subst e; exact ⟨_,rfl,r⟩
 | _,_,i + 1,x,.cons _ t,e=>by
  obtain ⟨u,h1,h2⟩:=Vals.get (i:=i) (x:=x) t (by simpa using e)
  exact ⟨u,by simpa using h1,h2⟩
theorem Vals.set {x:V} {u:d_} (r:RelV x u):∀ {xs:List V} {us:List d_} (i:Nat),Vals xs us→Vals (xs.set i x) (us.set i u)
 | _,_,_,.nil=>.nil
 | _,_,0,.cons _ t=>.cons r t
 | _,_,i + 1,.cons q t=>.cons q (Vals.set r i t)
theorem Vals.append:∀ {xs ys:List V} {us ws:List d_},Vals xs us→Vals ys ws→Vals (xs ++ ys) (us ++ ws)
 | _,_,_,_,.nil,s=>s
 | _,_,_,_,.cons r t,s=>.cons r (Vals.append t s)
theorem Vals.take:∀ {xs:List V} {us:List d_} (n:Nat),Vals xs us→Vals (xs.take n) (us.take n)
 | _,_,0,_=>.nil
 | _,_,_ + 1,.nil=>.nil
 | _,_,n + 1,.cons r t=>.cons r (Vals.take n t)
theorem Vals.drop:∀ {xs:List V} {us:List d_} (n:Nat),Vals xs us→Vals (xs.drop n) (us.drop n)
 | _,_,0,r=>r
 | _,_,_ + 1,.nil=>.nil
 | _,_,n + 1,.cons _ t=>Vals.drop n t
theorem Vals.none_of:∀ {xs:List V} {us:List d_} {i:Nat},Vals xs us→xs[i]?=ck→us[i]?=ck:=fun {xs us i} r e=>by
 have h1:=r.length
 have h2:xs.length≤i:=JY.mp e
 exact JY.mpr (by omega)
def RelO:Option V→Option d_→Prop
 | some v,a_ u=>RelV v u
 | none,ck=>True
 | _,_=>False
def KV {κ:Type}:List (κ×V)→List (κ×d_)→Prop:=Paired fun (p:κ×V) (q:κ×d_)=>p.1=q.1∧RelV p.2 q.2
def kV:Key→V
 | .inl i=>.int i
 | .inr x=>.str x
inductive HO where
 | lst (xs:List V)
 | tup (xs:List V)
 | dK (kvs:List (Key×V)) | dT (kvs:List (List Key×V))
 | set (S:Int→Bool) (n:Nat)
 | ins (C dx:i_) (fs:List (Str×V))
 | own (x:i_)
 | xd (fs:List (Str×V))
 | met (f x:i_)
 | rng (lo hi:Int)
 | frz (o:Obj) (u:HO)
 | tbl (ps:Array d_)
 | ext (φ:FF→Prop)
abbrev Hp:=i_→Option HO
def upd (H:Hp) (a:i_) (o:HO):Hp:=fun b=>if b=a then a_ o else H b
theorem ao {H:Hp} {a:i_} {o:HO}:upd H a o a=a_ o:=by unfold upd; rw [if_pos rfl]
theorem au {H:Hp} {a b:i_} {o:HO} (h:b≠a):upd H a o b=H b:=by unfold upd; rw [if_neg h]
theorem uS {H:Hp} {a:i_} {o u:HO}:upd (upd H a o) a u=upd H a u:=by
 funext b; unfold upd; split <;> rfl
theorem av {H:Hp} {a b:i_} {o:HO} (h:H a=a_ o) (h':H b=ck):a≠b:=by
 intro e; subst e; rw [h] at h'; cases h'
section
variable (P:n_) (w:y_)
def ObjOk (H:Hp) (h:FF) (a:i_):HO→Prop
 | .lst xs=>xs.length≤sizeLine∧∃ (its:List d_) (n:Nat),Vals xs its∧h.get? a=a_ { cls:=.type "list",data:=.seq its.toArray n }
 | .tup xs=>xs.length≤sizeLine∧∃ its:List d_,Vals xs its∧MT h a its.toArray
 | .dK kvs=>kvs.length≤sizeLine∧(a == sysModules)=f_∧∃ vs,KV kvs vs∧h.DictOf (oQ P w) a vs
 | .dT kvs=>kvs.length≤sizeLine∧(a == sysModules)=f_∧∃ xs:List (List Key×i_×d_),
  Paired (fun (p:List Key×V) (q:List Key×i_×d_)=>p.1=q.1∧H q.2.1=a_ (.tup (p.1.map kV))∧RelV p.2 q.2.2) kvs xs ∧
  ∃ o es ep,h.get? a=a_ o∧o.ExactDict∧o.data=.dict es ep∧es.toList=xs.map (entryOfKey (tupleKind (oQ P w)))∧(xs.map (·.1)).Nodup
 | .set S n=>h.SetOf (intKind P w) a S n
 | .ins C dx fs=>H dx=a_ (.own a)∧fs.length≤1000∧dx≠a∧h.get? a=a_ (Hk C dx) ∧
  ∃ mA,h.Ns1 dx mA∧(∀ f,RelO (fs.lookup f) (mA f))∧PySem.Within mA (fs.map (·.1))
 | .own _=>∃ o,h.get? a=a_ o
 | .xd fs=>∃ mA,h.Ns1 a mA∧∀ f,RelO (fs.lookup f) (mA f)
 | .rng lo hi=>∃ t u v,h.get? a=a_ { cls:=.type "range",data:=.fields #[.int lo t,.int hi u,.int 1 v] }
 | .frz o u=>h.get? a=a_ o∧ObjOk H h a u
 | .tbl ps=>∃ qs:Array d_,h.get? a=a_ { cls:=.none,data:=.fields qs }∧Mr qs.toList∧∀ pos v,Kp pos qs.toList=a_ v→∃ c oc vs q t t',v=.ref c∧H c=a_ (.frz oc (.ext fun _=>True))∧oc.data=.fields vs∧vs[1]?=a_ (.str q t)∧ps[0]?=a_ (.str q t')
 | .met f x=>h.get? a=a_ (Ka (.ref f) (.ref x))
 | .ext φ=>φ h∧(∃ o,h.get? a=a_ o)∧∀ h1 h2:FF,φ h1→(∀ o,h1.get? a=a_ o→h2.get? a=a_ o)→φ h2
def HOk (H:Hp) (h:FF):Prop:=∀ a o,H a=a_ o→ObjOk P w H h a o
end
section
variable {P:n_} {w:y_} {H H':Hp} {h h':FF} {a:i_} {o:HO}
theorem ObjOk.lt (x:ObjOk P w H h a o):a < h.objs.size:=by
 cases o with
 | lst xs=>obtain ⟨_,_,_,_,e⟩:=x; exact v_ e
 | tup xs=>obtain ⟨_,_,_,p⟩:=x; exact p.lt
 | dK kvs=>obtain ⟨_,_,_,_,o,_,_,e,_⟩:=x; exact v_ e
 | dT kvs=>obtain ⟨_,_,_,_,o,_,_,e,_⟩:=x; exact v_ e
 | set S n=>obtain ⟨o,_,_,_,e,_⟩:=x; exact v_ e
 | ins C dx fs=>obtain ⟨_,_,_,e,_⟩:=x; exact v_ e
 | own y=>obtain ⟨_,e⟩:=x; exact v_ e
 | xd fs=>obtain ⟨_,⟨_,_,_,e,_⟩,_⟩:=x; exact v_ e
 | rng lo hi=>obtain ⟨_,_,_,e⟩:=x; exact v_ e
 | frz ob u=>obtain ⟨e,_⟩:=x; exact v_ e
 | tbl ps=>obtain ⟨_,e,_⟩:=x; exact v_ e
 | met f y=>exact v_ (show h.get? a=a_ _ from x)
 | ext φ=>obtain ⟨_,⟨_,e⟩,_⟩:=x; exact v_ e
theorem Paired.mapP {α β:Type} {F G:α→β→Prop}:∀ {l₁:List α} {l₂:List β},Paired F l₁ l₂→(∀ a b,F a b→G a b)→Paired G l₁ l₂
 | _,_,.nil,_=>.nil
 | _,_,.cons r t,f=>.cons (f _ _ r) (Paired.mapP t f)
theorem ObjOk.stay (x:ObjOk P w H h a o) (k:∀ b u,(b=a∨H b=a_ (.own a))→h.get? b=a_ u→h'.get? b=a_ u)
 (ho:∀ b,H b=a_ (.own a)→H' b=a_ (.own a)) (ht:∀ b xs,H b=a_ (.tup xs)→H' b=a_ (.tup xs))
 (hf:∀ b o u,H b=a_ (.frz o u)→H' b=a_ (.frz o u):=by first | exact fun _ _ _ q=>q | (intro c _ _ q; rw [au (av q (by assumption))]; exact q)):ObjOk P w H' h' a o:=by
 induction o with
 | lst xs=>obtain ⟨z,its,n,r,e⟩:=x; exact ⟨z,its,n,r,k _ _ (.inl rfl) e⟩
 | tup xs=>obtain ⟨z,its,r,ob,e,c⟩:=x; exact ⟨z,its,r,ob,k _ _ (.inl rfl) e,c⟩
 | dK kvs=>obtain ⟨z,y,vs,r,ob,es,ep,e,c⟩:=x; exact ⟨z,y,vs,r,ob,es,ep,k _ _ (.inl rfl) e,c⟩
 | dT kvs =>
  obtain ⟨z,y,xs,r,ob,es,ep,e,c⟩:=x
  exact ⟨z,y,xs,Paired.mapP r fun p q z=>⟨z.1,ht _ _ z.2.1,z.2.2⟩,ob,es,ep,k _ _ (.inl rfl) e,c⟩
 | set S n=>obtain ⟨ob,es,ep,t,e,c⟩:=x; exact ⟨ob,es,ep,t,k _ _ (.inl rfl) e,c⟩
 | ins C dx fs =>
  obtain ⟨d,z,ne,e,mA,⟨od,es,ep,e2,c⟩,r⟩:=x
  exact ⟨ho _ d,z,ne,k _ _ (.inl rfl) e,mA,⟨od,es,ep,k _ _ (.inr d) e2,c⟩,r⟩
 | own y=>obtain ⟨ob,e⟩:=x; exact ⟨ob,k _ _ (.inl rfl) e⟩
 | xd fs=>obtain ⟨mA,⟨od,es,ep,e,c⟩,r⟩:=x; exact ⟨mA,⟨od,es,ep,k _ _ (.inl rfl) e,c⟩,r⟩
 | rng lo hi=>obtain ⟨t,u,v,e⟩:=x; exact ⟨t,u,v,k _ _ (.inl rfl) e⟩
 | frz ob u ih=>obtain ⟨e,q⟩:=x; exact ⟨k _ _ (.inl rfl) e,ih q⟩
 | tbl ps =>
  obtain ⟨qs,e,tr,ch⟩:=x
  exact ⟨qs,k a _ (.inl rfl) e,tr,fun pos v hv=>let ⟨c,oc,vs,q,t,t',e1,e2,r⟩:=ch pos v hv; ⟨c,oc,vs,q,t,t',e1,hf _ _ _ e2,r⟩⟩
 | met f y =>
  have e:h.get? a=a_ (Ka (.ref f) (.ref y)):=x
  show h'.get? a=a_ (Ka (.ref f) (.ref y))
  exact k a _ (.inl rfl) e
 | ext φ=>obtain ⟨p,⟨o,e⟩,st⟩:=x; exact ⟨st _ _ p fun o q=>k _ _ (.inl rfl) q,⟨o,k _ _ (.inl rfl) e⟩,st⟩
theorem HOk.lt (x:HOk P w H h) (e:H a=a_ o):a < h.objs.size:=(x a o e).lt
theorem HOk.fresh (x:HOk P w H h) (e:h.objs.size≤a):H a=ck:=by
 cases q:H a with
 | none=>rfl
 | some u=>exact absurd (D_ (x.lt q) e) (GO _)
theorem HOk.kept (x:HOk P w H h) (k:∀ b u,h.get? b=a_ u→h'.get? b=a_ u):HOk P w H h':=fun a o e =>
 (x a o e).stay (fun b u _ q=>k b u q) (fun _ q=>q) fun _ _ q=>q
theorem HOk.laid (x:HOk P w H h) (k:∀ b u,h.get? b=a_ u→h'.get? b=a_ u) (hp:h.objs.size≤a) (new:ObjOk P w (upd H a o) h' a o):HOk P w (upd H a o) h':=fun b u e=>by
 have hn:=x.fresh hp
 by_cases hb:b=a
 · subst hb; rw [ao] at e; cases e; exact new
 · rw [au hb] at e
   exact (x b u e).stay (fun c v _ q=>k c v q) (fun c q=>by rw [au (av q hn)]; exact q) fun c xs q=>by rw [au (av q hn)]; exact q
end
def Rd (H:Hp) (a:i_) (u:HO):Prop:=H a=a_ u∨∃ o,H a=a_ (.frz o u)
theorem Rd.of {H:Hp} {a:i_} {u:HO} (h:H a=a_ u):Rd H a u:=.inl h
theorem Rd.ok {P:n_} {w:y_} {H:Hp} {h:FF} {a:i_} {u:HO} (r:Rd H a u) (x:HOk P w H h):ObjOk P w H h a u:=by
 rcases r with r | ⟨o,r⟩
 · exact x a u r
 · obtain ⟨_,q⟩:=x a _ r
   exact q
def Mut:Option HO→Prop
 | some (.lst _)=>True
 | some (.dK _)=>True
 | some (.dT _)=>True
 | some (.set _ _)=>True
 | some (.ins _ _ _)=>True
 | some (.ext _)=>True
 | _=>False
section
variable {P:n_} {w:y_} {H:Hp} {h h':FF} {x e:i_} {o':HO}
theorem HOk.write (ok:HOk P w H h) (mu:Mut (H x)) (he:e=x∨H e=a_ (.own x)) (k:∀ b u,b≠e→h.get? b=a_ u→h'.get? b=a_ u) (heo:∃ u,h'.get? e=a_ u)
 (new:ObjOk P w (upd H x o') h' x o'):HOk P w (upd H x o') h':=fun b u q=>by
 have nown:∀ c y,H c=a_ (.own y)→c≠x:=fun c y r z=>by subst z; rw [r] at mu; exact mu
 have ntup:∀ c xs,H c=a_ (.tup xs)→c≠x:=fun c xs r z=>by subst z; rw [r] at mu; exact mu
 by_cases hb:b=x
 · subst hb; rw [ao] at q; cases q; exact new
 · rw [au hb] at q
   by_cases hbe:b=e
   · have q':H b=a_ (.own x):=by
      rcases he with z | z
      · exact absurd (hbe.trans z) hb
      · rw [hbe]; exact z
     rw [q] at q'; cases q'
     obtain ⟨v,hv⟩:=heo
     exact ⟨v,by rw [hbe]; exact hv⟩
   · refine (ok b u q).stay (fun c v hc r=>k c v ?_ r) (fun c r=>by rw [au (nown c b r)]; exact r) (fun c xs r=>by rw [au (ntup c xs r)]; exact r) fun c _ _ r=>by rw [au (fun z=>by subst z; rw [r] at mu; exact mu)]; exact r
     rcases hc with rfl | hc
     · exact hbe
     · rintro rfl
       rcases he with z | z
       · exact nown c b hc z
       · rw [hc] at z; cases z; exact hb rfl
end
structure Un (fs ex:List i_) (H H':Hp) (h h':FF):Prop where
 keep:∀ b o,h.get? b=a_ o→H b=ck→b ∉ fs→b ∉ ex→h'.get? b=a_ o
 slot:∀ b o,h.get? b=a_ o→H b=ck→b∈fs→b ∉ ex→∃ sl,h'.get? b=a_ { o with slots:=sl }
 free:∀ b o,h.get? b=a_ o→H b=ck→b ∉ ex→H' b=ck
 there:∀ b o,h.get? b=a_ o→b ∉ ex→∃ o',h'.get? b=a_ o'
 tups:∀ b xs,H b=a_ (.tup xs)→H' b=a_ (.tup xs)
 frzs:∀ b o u,H b=a_ (.frz o u)→H' b=a_ (.frz o u)
 tbls:∀ b ps,H b=a_ (.tbl ps)→∃ more,H' b=a_ (.tbl (ps ++ more))
section
variable {fs fs' ex ex':List i_} {H H1 H2:Hp} {h h1 h2 h':FF} {a x e:i_} {o:HO}
theorem Un.any (u:Un fs ex H H1 h h1) {b:i_} {ob:Obj} (q:h.get? b=a_ ob) (n:H b=ck) (hx:b ∉ ex):∃ sl,h1.get? b=a_ { ob with slots:=sl }:=by
 by_cases hb:b∈fs
 · exact u.slot b ob q n hb hx
 · exact ⟨ob.slots,u.keep b ob q n hb hx⟩
theorem Un.trans (a:Un fs ex H H1 h h1) (b:Un fs ex H1 H2 h1 h2):Un fs ex H H2 h h2 where
 keep:=fun c ob q n hc hx=>b.keep c ob (a.keep c ob q n hc hx) (a.free c ob q n hx) hc hx
 slot:=fun c ob q n hc hx=>by
  obtain ⟨sl,e1⟩:=a.slot c ob q n hc hx
  obtain ⟨sl',e2⟩:=b.slot c _ e1 (a.free c ob q n hx) hc hx
  exact ⟨sl',e2⟩
 free:=fun c ob q n hx=>by
  obtain ⟨o',e1⟩:=a.there c ob q hx
  exact b.free c o' e1 (a.free c ob q n hx) hx
 there:=fun c ob q hx=>by
  obtain ⟨o',e1⟩:=a.there c ob q hx
  exact b.there c o' e1 hx
 tups:=fun c xs q=>b.tups c xs (a.tups c xs q)
 frzs:=fun c ob xs q=>b.frzs c ob xs (a.frzs c ob xs q)
 tbls:=fun c ps q=>by
  obtain ⟨m1,e1⟩:=a.tbls c ps q
  obtain ⟨m2,e2⟩:=b.tbls c _ e1
  exact ⟨m1 ++ m2,by rw [e2,LY]⟩
theorem Un.kept (k:∀ b u,h.get? b=a_ u→h'.get? b=a_ u):Un fs ex H H h h' :=
 ⟨fun b ob q _ _ _=>k b ob q,fun b ob q _ _ _=>⟨ob.slots,k b ob q⟩,fun _ _ _ n _=>n,fun b ob q _=>⟨ob,k b ob q⟩,fun _ _ q=>q,fun _ _ _ q=>q,fun _ ps q=>⟨#[],by rw [q]; simp⟩⟩
theorem Un.refl:Un fs ex H H h h:=Un.kept fun _ _ q=>q
theorem Un.laid (k:∀ b u,h.get? b=a_ u→h'.get? b=a_ u) (hp:h.objs.size≤a) (hn:H a=ck):Un fs ex H (upd H a o) h h' where
 keep:=fun b u q _ _ _=>k b u q
 slot:=fun b u q _ _ _=>⟨u.slots,k b u q⟩
 free:=fun b u q n _=>by rw [au (FM (D_ (v_ q) hp))]; exact n
 there:=fun b u q _=>⟨u,k b u q⟩
 tups:=fun b xs q=>by rw [au (av q hn)]; exact q
 frzs:=fun b u xs q=>by rw [au (av q hn)]; exact q
 tbls:=fun b ps q=>⟨#[],by rw [au (av q hn),q]; simp⟩
theorem Un.write (mu:Mut (H x)) (he:e=x∨H e=a_ (.own x)) (k:∀ b u,b≠e→h.get? b=a_ u→h'.get? b=a_ u) (heo:∃ u,h'.get? e=a_ u):Un fs ex H (upd H x o) h h':=by
 have hx:∀ b,H b=ck→b≠x:=fun b n z=>by subst z; rw [n] at mu; exact mu
 have hb:∀ b,H b=ck→b≠e:=fun b n z=>by
  subst z
  rcases he with r | r
  · exact hx b n r
  · rw [n] at r; cases r
 have hm:∀ b u,H b=a_ u→¬ Mut (a_ u)→b≠x:=fun b u q nm z=>by subst z; rw [q] at mu; exact nm mu
 refine ⟨fun b u q n _ _=>k b u (hb b n) q,fun b u q n _ _=>⟨u.slots,k b u (hb b n) q⟩,fun b u q n _=>by rw [au (hx b n)]; exact n,fun b u q _=>?_,
  fun b xs q=>by rw [au (hm b _ q fun z=>z)]; exact q,fun b u xs q=>by rw [au (hm b _ q fun z=>z)]; exact q,fun b ps q=>⟨#[],by rw [au (hm b _ q fun z=>z),q]; simp⟩⟩
 by_cases hbe:b=e
 · subst hbe; exact heo
 · exact ⟨u,k b u hbe q⟩
theorem Un.mono (u:Un fs ex H H1 h h1) (hs:∀ b∈fs,b∈fs') (hx:∀ b∈ex,b∈ex'):Un fs' ex' H H1 h h1 :=
 ⟨fun b ob q n hb he=>u.keep b ob q n (fun z=>hb (hs b z)) fun z=>he (hx b z),fun _ _ q n _ he=>u.any q n fun z=>he (hx _ z),fun b ob q n he=>u.free b ob q n fun z=>he (hx b z),fun b ob q he=>u.there b ob q fun z=>he (hx b z),u.tups,u.frzs,u.tbls⟩
end
def trk (h:FF) (H:Hp):List i_:=(pi h.objs.size).filter fun a=>(H a).isSome
def mD (h:FF) (H:Hp):FF:=MH h (trk h H)
theorem ke (h:FF) (H:Hp):(mD h H).objs.size=h.objs.size:=PySem.W.hideAll_size _ _
theorem mE {h:FF} {H:Hp} {b:i_} {o:Obj} (e:h.get? b=a_ o) (n:H b=ck):(mD h H).get? b=a_ o :=
 Ju _ e fun hm=>by
  have q:(H b).isSome=e_:=(Gj.mp hm).2
  rw [n] at q; simp at q
theorem oR {h:FF} {H:Hp} {b:i_} {o:Obj} (e:(mD h H).get? b=a_ o):h.get? b=a_ o∧H b=ck:=by
 have e':h.get? b=a_ o:=HM (trk h H) e
 refine ⟨e',?_⟩
 cases q:H b with
 | none=>rfl
 | some x =>
  have hm:b∈trk h H:=Gj.mpr ⟨Gr.mpr (v_ e'),by simp [q]⟩
  have z:(mD h H).get? b=ck:=GI (trk h H) hm
  rw [z] at e; cases e
def uT (g h:FF) (L:i_):List (i_×Obj):=(pi h.objs.size).filterMap fun a=>if a=L∨(g.get? a).isSome=e_ then ck else (h.get? a).map fun o=>(a,o)
def rest (g h:FF) (L d:i_):List (i_×Obj):=(uT g h L).filter fun p=>t_ (p.1≠d)
structure Mod (K:c_) (mg:Str→Option d_) (base:FF):Prop where
 kin:K.In base
 glob:base.Ns rl mg
 blt:∃ mb,base.Ns builtinsNs mb∧∀ x:Str,x≠"__name__"→mb x=Go x
 nolimit:base.NoLimit
structure Cx where
 prog:n_
 w:y_
 K:c_
 mg:Str→Option d_
 base:FF
 A:w_
 N:List Str
 s₀:ge
 H₀:Hp
 env:Env
 outer:List Env
 stack:List Env
 ex:List i_
 fn:Str→Bool
 calm:Bool
 pn:List (i_×Obj)
 xe:d_→ge→Prop
def frs (l:List Env):List i_:=l.filterMap (·.frame)
abbrev Cx.fs (X:Cx):List i_:=frs X.outer
def Vis (sc:GK) (x:Str):Prop:=sc.names.lookup x=a_ .local∨sc.names.lookup x=a_ .cell∨sc.names.lookup x=a_ .free
def Loc (sc:GK) (x:Str):Prop:=sc.names.lookup x=a_ .local∨sc.names.lookup x=a_ .cell
def Ez (env:Env) (h:FF) (m:Str→Option d_) (x:Str) (u:d_):Prop :=
 (env.kindOf x=a_ .local∧m x=a_ u)∨((env.kindOf x=a_ .cell∨env.kindOf x=a_ .free)∧∃ c,env.cells.lookup x=a_ c∧h.IsCell c (a_ u))
structure Cx.Ok (X:Cx):Prop where
 mod:Mod X.K X.mg X.base
 kind:X.env.scope.kind=.function
 glob:X.env.globals=rl
 blt:X.env.builtins=builtinsNs
 above:X.s₀.heap.objs.size≤X.env.locals
 inj:∀ x y c,X.env.cells.lookup x=a_ c→X.env.cells.lookup y=a_ c→x=y
 has:∀ x,(X.env.kindOf x=a_ .cell∨X.env.kindOf x=a_ .free)→∃ c,X.env.cells.lookup x=a_ c
 cab:∀ x c,X.fn x=e_→X.env.cells.lookup x=a_ c→X.s₀.heap.objs.size≤c
 hd:X.calm=e_→X.A.handled=ck
 frames:X.A.frames=a_ X.stack
 stk:X.stack=X.outer∨(X.stack=X.env :: X.outer∧X.env.frame=a_ X.env.locals)
 exf:∀ b∈X.ex,b≠X.env.locals∧∀ x c,X.env.cells.lookup x=a_ c→c≠b
 bs:∀ b o,X.base.get? b=a_ o→X.s₀.heap.get? b=a_ o∧X.H₀ b=ck
 bsz:X.base.objs.size≤X.s₀.heap.objs.size
 noex:∀ b o,X.base.get? b=a_ o→b ∉ X.ex
 exfs:∀ b∈X.ex,b ∉ X.fs
 funs:X.s₀.heap.FunFrames X.base X.outer
 frf:∀ b∈X.fs,X.H₀ b=ck
structure Inv (X:Cx) (pins:List (i_×Obj)) (σ:List (Option V)) (H:Hp) (s:ge):Prop where
 ok:X.Ok
 os:s.os=X.s₀.os
 bare:IU s.gens
 base:Un X.fs X.ex X.H₀ H X.s₀.heap s.heap
 loc:∃ m,s.heap.Ns X.env.locals m∧∀ (i:Nat) (x:Str) (v:V),X.N[i]?=a_ x→σ[i]?=a_ (a_ v)→Vis X.env.scope x→∃ u,RelV v u∧Ez X.env s.heap m x u
 cell:∀ x c,X.env.cells.lookup x=a_ c→∃ v,s.heap.IsCell c v
 free:H X.env.locals=ck
 freeC:∀ x c,X.env.cells.lookup x=a_ c→H c=ck
 pin:∀ p∈X.pn ++ pins,s.heap.get? p.1=a_ p.2∧H p.1=ck∧p.1≠X.env.locals∧p.1 ∉ X.fs∧∀ v,p.2.data≠.cell v
 hok:HOk X.prog X.w H s.heap
 len:σ.length=X.N.length
section
variable {X:Cx} {pins:List (i_×Obj)} {σ:List (Option V)} {H H':Hp} {s:ge} {h':FF}
theorem Cx.Ok.nofr (ok:X.Ok) {b:i_} {o:Obj} (e:X.base.get? b=a_ o):b ∉ X.fs:=fun hb=>by
 have:=(ok.funs.mem hb).1
 rw [e] at this; cases this
theorem Inv.bs (I:Inv X pins σ H s):∀ b o,X.base.get? b=a_ o→s.heap.get? b=a_ o∧H b=ck:=fun b o e =>
 ⟨I.base.keep b o (I.ok.bs b o e).1 (I.ok.bs b o e).2 (I.ok.nofr e) (I.ok.noex b o e),I.base.free b o (I.ok.bs b o e).1 (I.ok.bs b o e).2 (I.ok.noex b o e)⟩
theorem Inv.bk (I:Inv X pins σ H s):∀ b o,X.base.get? b=a_ o→s.heap.get? b=a_ o:=fun b o e=>(I.bs b o e).1
theorem Inv.mod (I:Inv X pins σ H s):Mod X.K X.mg X.base:=I.ok.mod
theorem Inv.kIn (I:Inv X pins σ H s):X.K.In s.heap:=I.ok.mod.kin.keeps I.bk
theorem Inv.nolimit (I:Inv X pins σ H s):s.heap.NoLimit:=I.ok.mod.nolimit.keeps I.bk
theorem Inv.fr (I:Inv X pins σ H s):∃ m,Fr X.base X.env.locals s.heap m :=
 let ⟨m,hn,_⟩:=I.loc
 ⟨m,hn,I.bk,F6 I.ok.bsz I.ok.above⟩
theorem Inv.lt (I:Inv X pins σ H s):X.env.locals < s.heap.objs.size:=let ⟨_,hn,_⟩:=I.loc; hn.lt
theorem Inv.sz (I:Inv X pins σ H s):X.s₀.heap.objs.size≤s.heap.objs.size:=F6 I.ok.above (Il I.lt)
theorem Inv.nofs (I:Inv X pins σ H s) {a:i_} (h:s.heap.objs.size≤a):a ∉ X.fs:=fun hb=>by
 obtain ⟨_,o,ho,_⟩:=I.ok.funs.mem hb
 exact absurd (D_ (v_ ho) (F6 I.sz h)) (GO _)
theorem Inv.cne (I:Inv X pins σ H s):∀ x c,X.env.cells.lookup x=a_ c→c≠X.env.locals:=fun x c e z=>by
 obtain ⟨v,o,ho,hd⟩:=I.cell x c e
 obtain ⟨m,⟨o',es,ep,ho',hd',_⟩,_⟩:=I.loc
 rw [z,ho'] at ho; cases ho; rw [hd'] at hd; cases hd
theorem Inv.funs (I:Inv X pins σ H s):s.heap.FunFrames X.base X.outer:=by
 have all:∀ (l:List Env),(∀ b∈frs l,b∈X.fs)→X.s₀.heap.FunFrames X.base l→s.heap.FunFrames X.base l:=by
  intro l
  induction l with
  | nil=>intro _ _; trivial
  | cons env r ih =>
   intro hs hl
   obtain ⟨hk,⟨L,o,hf,hn,ho,hd⟩,hr⟩:=hl
   have hL:L∈X.fs:=hs L (by unfold frs; rw [HB,hf]; exact p_)
   obtain ⟨sl,e⟩:=I.base.slot L o ho (I.ok.frf L hL) hL fun z=>I.ok.exfs L z hL
   exact ⟨hk,⟨L,_,hf,hn,e,hd⟩,ih (fun b hb=>hs b (by unfold frs; rw [HB,hf]; exact on _ hb)) hr⟩
 exact all X.outer (fun _ hb=>hb) I.ok.funs
theorem Inv.stack (I:Inv X pins σ H s):s.heap.FunFrames X.base X.stack:=by
 rcases I.ok.stk with e | ⟨e,hf⟩
 · rw [e]; exact I.funs
 · rw [e]
   obtain ⟨m,hn,_⟩:=I.loc
   refine .cons (by rw [I.ok.kind]; decide) hf hn ?_ I.funs
   exact Jn (F6 I.ok.bsz I.ok.above)
theorem Inv.stkSub (I:Inv X pins σ H s):∀ b∈frs X.stack,b∈X.env.locals :: X.fs:=fun b hb=>by
 rcases I.ok.stk with e | ⟨e,hf⟩
 · rw [e] at hb; exact on _ hb
 · rw [e] at hb
   unfold frs at hb
   rw [HB,hf] at hb
   exact hb
theorem Inv.stkFree (I:Inv X pins σ H s):∀ b∈frs X.stack,H b=ck:=fun b hb=>by
 rcases FB.mp (I.stkSub b hb) with e | hb
 · rw [e]; exact I.free
 · obtain ⟨_,o,ho,_⟩:=I.ok.funs.mem hb
   exact I.base.free b o ho (I.ok.frf b hb) fun z=>I.ok.exfs b z hb
theorem Inv.step {g':Array JK} {t':Nat} {d':Drawn} {ch:List i_} (I:Inv X pins σ H s)
 (hch:∀ b∈ch,(b∈X.ex∨X.s₀.heap.objs.size≤b)∧b≠X.env.locals∧(∀ x c,X.env.cells.lookup x=a_ c→c≠b)∧∀ p∈X.pn ++ pins,p.1≠b)
 (keep:∀ b o,b≠X.env.locals→b ∉ X.fs→b ∉ ch→s.heap.get? b=a_ o→H b=ck→h'.get? b=a_ o)
 (slot:∀ b o,b≠X.env.locals→b∈X.fs→b ∉ ch→s.heap.get? b=a_ o→H b=ck→∃ sl,h'.get? b=a_ { o with slots:=sl }) (free:∀ b o,b ∉ ch→s.heap.get? b=a_ o→H b=ck→H' b=ck)
 (there:∀ b o,b ∉ ch→s.heap.get? b=a_ o→∃ o',h'.get? b=a_ o')
 (tups:∀ b xs,H b=a_ (.tup xs)→H' b=a_ (.tup xs)) (frzs:∀ b o u,H b=a_ (.frz o u)→H' b=a_ (.frz o u)) (tbls:∀ b ps,H b=a_ (.tbl ps)→∃ more,H' b=a_ (.tbl (ps ++ more)))
 (ns:∀ m,s.heap.Ns X.env.locals m→h'.Ns X.env.locals m) (hok:HOk X.prog X.w H' h') (hg:IU g') :
 Inv X pins σ H' { s with heap:=h',gens:=g',drawn:=d',toks:=t' }:=by
 have neL:∀ b o,X.s₀.heap.get? b=a_ o→b≠X.env.locals:=fun b o e=>FM (D_ (v_ e) I.ok.above)
 have neC:∀ b o,X.s₀.heap.get? b=a_ o→b ∉ X.ex→b ∉ ch:=fun b o e hx hb=>by
  rcases (hch b hb).1 with z | z
  · exact hx z
  · exact absurd (D_ (v_ e) z) (GO _)
 have cellK:∀ x c,X.env.cells.lookup x=a_ c→∀ v,s.heap.IsCell c v→h'.IsCell c v:=fun x c e v ⟨o,ho,hd⟩=>by
  have nch:c ∉ ch:=fun z=>(hch c z).2.2.1 x c e rfl
  by_cases hc:c∈X.fs
  · obtain ⟨sl,q⟩:=slot c o (I.cne x c e) hc nch ho (I.freeC x c e)
    exact ⟨_,q,hd⟩
  · exact ⟨o,keep c o (I.cne x c e) hc nch ho (I.freeC x c e),hd⟩
 refine ⟨I.ok,I.os,hg,⟨fun b o e n hb hx=>?_,fun b o e n hb hx=>?_,fun b o e n hx=>?_,fun b o e hx=>?_,fun b xs e=>tups b xs (I.base.tups b xs e),fun b o xs e=>frzs b o xs (I.base.frzs b o xs e),fun b ps e=>?_⟩,?_,fun x c e=>?_,?_,fun x c e=>?_,fun p hp=>?_,hok,I.len⟩
 · exact keep b o (neL b o e) hb (neC b o e hx) (I.base.keep b o e n hb hx) (I.base.free b o e n hx)
 · obtain ⟨sl,e1⟩:=I.base.slot b o e n hb hx
   obtain ⟨sl',e2⟩:=slot b _ (neL b o e) hb (neC b o e hx) e1 (I.base.free b o e n hx)
   exact ⟨sl',e2⟩
 · obtain ⟨o',e1⟩:=I.base.there b o e hx
   exact free b o' (neC b o e hx) e1 (I.base.free b o e n hx)
 · obtain ⟨o',e1⟩:=I.base.there b o e hx
   exact there b o' (neC b o e hx) e1
 · obtain ⟨m1,e1⟩:=I.base.tbls b ps e
   obtain ⟨m2,e2⟩:=tbls b _ e1
   exact ⟨m1 ++ m2,by rw [e2,LY]⟩
 · obtain ⟨m,hn,hl⟩:=I.loc
   refine ⟨m,ns m hn,fun i x v e1 e2 e3=>?_⟩
   obtain ⟨u,r,l⟩:=hl i x v e1 e2 e3
   refine ⟨u,r,?_⟩
   rcases l with l | ⟨k,c,e,z⟩
   · exact .inl l
   · exact .inr ⟨k,c,e,cellK x c e _ z⟩
 · obtain ⟨v,z⟩:=I.cell x c e
   exact ⟨v,cellK x c e v z⟩
 · obtain ⟨m,⟨o,_,_,ho,_⟩,_⟩:=I.loc
   exact free _ o (fun z=>(hch _ z).2.1 rfl) ho I.free
 · obtain ⟨v,o,ho,hd⟩:=I.cell x c e
   exact free c o (fun z=>(hch c z).2.2.1 x c e rfl) ho (I.freeC x c e)
 · obtain ⟨e,n,ne,nf,d⟩:=I.pin p hp
   have nch:p.1 ∉ ch:=fun z=>(hch p.1 z).2.2.2 p hp rfl
   exact ⟨keep p.1 p.2 ne nf nch e n,free p.1 p.2 nch e n,ne,nf,d⟩
theorem Inv.un {t':Nat} (I:Inv X pins σ H s) (u:Un X.fs [] H H' s.heap h') (hok:HOk X.prog X.w H' h'):Inv X pins σ H' { s with heap:=h',toks:=t' }:=by
 obtain ⟨m,⟨o,es,ep,ho,r⟩,_⟩:=id I.loc
 obtain ⟨sl,hL⟩:=u.any ho I.free (by simp)
 exact I.step (g':=s.gens) (d':=s.drawn) (ch:=[]) (fun _ z=>nomatch z) (fun b o _ hb _ e n=>u.keep b o e n hb (by simp)) (fun b o _ hb _ e n=>u.slot b o e n hb (by simp)) (fun b o _ e n=>u.free b o e n (by simp)) (fun b o _ e=>u.there b o e (by simp)) u.tups u.frzs u.tbls (fun m' hm=>by
  obtain ⟨o',es',ep',ho',r'⟩:=hm
  rw [ho] at ho'; cases ho'
  exact ⟨_,es',ep',hL,r'⟩) hok I.bare
theorem Inv.call {g':Array JK} {t':Nat} {d':Drawn} {ch:List i_} (I:Inv X pins σ H s) (u:Un (frs X.stack) ch H H' s.heap h') (hok:HOk X.prog X.w H' h') (hg:IU g')
 (hch:∀ b∈ch,(b∈X.ex∨X.s₀.heap.objs.size≤b)∧b≠X.env.locals∧(∀ x c,X.env.cells.lookup x=a_ c→c≠b)∧∀ p∈X.pn ++ pins,p.1≠b) :
 Inv X pins σ H' { s with heap:=h',gens:=g',drawn:=d',toks:=t' }:=by
 obtain ⟨m,⟨o,es,ep,ho,r⟩,_⟩:=id I.loc
 obtain ⟨sl,hL⟩:=u.any ho I.free fun z=>(hch _ z).2.1 rfl
 exact I.step (ch:=ch) hch (fun b o hL hb hc e n=>u.keep b o e n (fun z=>(FB.mp (I.stkSub b z)).elim hL hb) hc) (fun b o _ _ hc e n=>u.any e n hc) (fun b o hc e n=>u.free b o e n hc) (fun b o hc e=>u.there b o e hc) u.tups u.frzs u.tbls (fun m' hm=>by
  obtain ⟨o',es',ep',ho',r'⟩:=hm
  rw [ho] at ho'; cases ho'
  exact ⟨_,es',ep',hL,r'⟩) hok hg
theorem Inv.turned {t':Nat} {it:i_} (I:Inv X pins σ H s) (k:∀ b o,b≠it→s.heap.get? b=a_ o→h'.get? b=a_ o) (hn:H it=ck) (hL:it≠X.env.locals)
 (h1:it∈X.ex∨X.s₀.heap.objs.size≤it) (h2:∀ x c,X.env.cells.lookup x=a_ c→c≠it) (h3:∀ p∈X.pn ++ pins,p.1≠it):Inv X pins σ H { s with heap:=h',toks:=t' }:=by
 have nit:∀ b u,H b=a_ u→b≠it:=fun b u e z=>by rw [z,hn] at e; cases e
 refine I.step (g':=s.gens) (d':=s.drawn) (ch:=[it]) (fun b hb=>?_) (fun b o _ _ hc e _=>k b o (fun z=>hc (by simp [z])) e) (fun b o _ _ hc e _=>⟨o.slots,k b o (fun z=>hc (by simp [z])) e⟩) (fun _ _ _ _ n=>n)
  (fun b o hc e=>⟨o,k b o (fun z=>hc (by simp [z])) e⟩) (fun _ _ e=>e) (fun _ _ _ e=>e) (fun b ps e=>⟨#[],by rw [e]; simp⟩) (fun m hm=>?_) (fun b u e=>?_) I.bare
 · have e:b=it:=by simpa using hb
   subst e
   exact ⟨h1,hL,h2,h3⟩
 · obtain ⟨o,es,ep,ho,r⟩:=hm
   exact ⟨o,es,ep,k _ o (IX hL) ho,r⟩
 · refine (I.hok b u e).stay (fun c v hc q=>k c v ?_ q) (fun _ q=>q) fun _ _ q=>q
   rcases hc with z | z
   · rw [z]; exact nit b u e
   · exact nit c _ z
theorem Inv.tok (I:Inv X pins σ H s) (t:Nat):Inv X pins σ H { s with toks:=t }:=I.un (h':=s.heap) (t':=t) Un.refl I.hok
theorem Inv.kept {t':Nat} (I:Inv X pins σ H s) (k:∀ b u,s.heap.get? b=a_ u→h'.get? b=a_ u):Inv X pins σ H { s with heap:=h',toks:=t' }:=I.un (Un.kept k) (I.hok.kept k)
theorem Inv.laid {a:i_} {o:HO} {t':Nat} (I:Inv X pins σ H s) (k:∀ b u,s.heap.get? b=a_ u→h'.get? b=a_ u) (hp:s.heap.objs.size≤a) (new:ObjOk X.prog X.w (upd H a o) h' a o) :
 Inv X pins σ (upd H a o) { s with heap:=h',toks:=t' }:=I.un (Un.laid k hp (I.hok.fresh hp)) (I.hok.laid k hp new)
theorem Inv.write {x e:i_} {o:HO} {t':Nat} (I:Inv X pins σ H s) (mu:Mut (H x)) (he:e=x∨H e=a_ (.own x)) (k:∀ b u,b≠e→s.heap.get? b=a_ u→h'.get? b=a_ u) (heo:∃ u,h'.get? e=a_ u)
 (new:ObjOk X.prog X.w (upd H x o) h' x o):Inv X pins σ (upd H x o) { s with heap:=h',toks:=t' }:=I.un (Un.write mu he k heo) (I.hok.write mu he k heo new)
theorem Inv.pins_of {pins':List (i_×Obj)} (I:Inv X pins σ H s) (h:∀ p∈pins',s.heap.get? p.1=a_ p.2∧H p.1=ck∧p.1≠X.env.locals∧p.1 ∉ X.fs∧∀ v,p.2.data≠.cell v):Inv X pins' σ H s :=
 ⟨I.ok,I.os,I.bare,I.base,I.loc,I.cell,I.free,I.freeC,fun p hp=>(Ga.mp hp).elim (fun z=>I.pin p (FH _ z)) (h p),I.hok,I.len⟩
theorem jD {N:List Str} (hN:N.Nodup) {i j:Nat} {x:Str} (a:N[i]?=a_ x) (b:N[j]?=a_ x):i=j:=by
 obtain ⟨h1,e1⟩:=E_.mp a
 obtain ⟨h2,e2⟩:=E_.mp b
 exact (MC hN).mp (e1.trans e2.symm)
theorem oU {M:Kr} {A:w_} {E:d_→ge→Prop} {i:Nat} {x:Str} {v:V} {u:d_} {Q:Unit→ge→Prop} (I:Inv X pins σ H s) (hN:X.N.Nodup) (hi:X.N[i]?=a_ x) (hx:Loc X.env.scope x) (r:RelV v u)
 (h:∀ s',Inv X pins (σ.set i (a_ v)) H s'→(∃ a,JB a s.heap s'.heap∧(a=X.env.locals∨X.env.cells.lookup x=a_ a))→Q () s') (hf:X.fn x=e_∨X.env.scope.names.lookup x=a_ .local:=by first | exact .inl rfl | exact .inr rfl | assumption):u_ M A (storeName X.env x u) Q E s:=by
 obtain ⟨m,hn,hl⟩:=id I.loc
 have hcls:(X.env.scope.kind == .class || (X.env.scope.kind == .module && X.env.locals != X.env.globals))=f_:=by rw [I.ok.kind]; rfl
 have hiσ:i < σ.length:=by rw [I.len]; exact (E_.mp hi).1
 have cne:=I.cne
 have tracked:∀ {a:i_} {h':FF},(∃ o,s.heap.get? a=a_ o∧H a=ck)→JB a s.heap h'→HOk X.prog X.w H h':=fun {a h'} ha hs b ob e=>by
  obtain ⟨_,_,hfree⟩:=ha
  refine (I.hok b ob e).stay (fun c w' hc q=>(hs.2 c ?_).trans q) (fun _ q=>q) fun _ _ q=>q
  rintro rfl
  rcases hc with rfl | hc
  · rw [hfree] at e; cases e
  · rw [hfree] at hc; cases hc
 rcases hx with hk | hk
 · refine wpAny_storeName_local hk hn (fun h' hn' hs=>?_) hcls
   obtain ⟨oL,_,_,hoL,_⟩:=id hn
   refine h _ ⟨I.ok,I.os,I.bare,⟨fun b o e n hb hx=>?_,fun b o e n hb hx=>?_,I.base.free,fun b o e hx=>?_,I.base.tups,I.base.frzs,I.base.tbls⟩,⟨_,hn',fun j y v' e1 e2 e3=>?_⟩,fun y c e=>?_,I.free,I.freeC,fun p hp=>?_,tracked ⟨oL,hoL,I.free⟩ hs,by simpa using I.len⟩ ⟨_,hs,.inl rfl⟩
   · exact (hs.2 b (FM (D_ (v_ e) I.ok.above))).trans (I.base.keep b o e n hb hx)
   · obtain ⟨sl,e1⟩:=I.base.slot b o e n hb hx
     exact ⟨sl,(hs.2 b (FM (D_ (v_ e) I.ok.above))).trans e1⟩
   · obtain ⟨o',e1⟩:=I.base.there b o e hx
     exact ⟨o',(hs.2 b (FM (D_ (v_ e) I.ok.above))).trans e1⟩
   · by_cases hj:j=i
     · subst hj
       rw [hi] at e1; cases e1
       rw [F7 hiσ] at e2
       cases e2
       exact ⟨u,r,.inl ⟨hk,by simp⟩⟩
     · rw [Gf (IX hj)] at e2
       obtain ⟨u',r',q⟩:=hl j y v' e1 e2 e3
       refine ⟨u',r',?_⟩
       rcases q with ⟨k,e⟩ | ⟨k,c,e,z⟩
       · refine .inl ⟨k,?_⟩
         have:y≠x:=fun e=>hj (jD hN e1 (e ▸ hi))
         simp [this,e]
       · exact .inr ⟨k,c,e,z.sameBut hs (cne y c e)⟩
   · obtain ⟨w',z⟩:=I.cell y c e
     exact ⟨w',z.sameBut hs (cne y c e)⟩
   · obtain ⟨e,n,ne,nf,d⟩:=I.pin p hp
     exact ⟨(hs.2 p.1 ne).trans e,n,ne,nf,d⟩
 · have hfn:X.fn x=e_:=by
    rcases hf with z | z
    · exact z
    · rw [z] at hk; cases hk
   obtain ⟨c,hc⟩:=I.ok.has x (.inl hk)
   obtain ⟨w',z⟩:=I.cell x c hc
   refine wpAny_storeName_cell I.ok.kind hk hc z (fun h' hc' hs=>?_)
   obtain ⟨oc,hoc,hocd⟩:=id z
   refine h { s with heap:=h' } ⟨I.ok,I.os,I.bare,⟨fun b o e n hb hx=>?_,fun b o e n hb hx=>?_,I.base.free,fun b o e hx=>?_,I.base.tups,I.base.frzs,I.base.tbls⟩,⟨m,hn.sameBut hs (IX (cne x c hc)),fun j y v' e1 e2 e3=>?_⟩,fun y c' e=>?_,I.free,I.freeC,fun p hp=>?_,tracked ⟨oc,hoc,I.freeC x c hc⟩ hs,by simpa using I.len⟩ ⟨c,hs,.inr hc⟩
   · exact (hs.2 b (FM (D_ (v_ e) (I.ok.cab x c hfn hc)))).trans (I.base.keep b o e n hb hx)
   · obtain ⟨sl,e1⟩:=I.base.slot b o e n hb hx
     exact ⟨sl,(hs.2 b (FM (D_ (v_ e) (I.ok.cab x c hfn hc)))).trans e1⟩
   · obtain ⟨o',e1⟩:=I.base.there b o e hx
     exact ⟨o',(hs.2 b (FM (D_ (v_ e) (I.ok.cab x c hfn hc)))).trans e1⟩
   · by_cases hj:j=i
     · subst hj
       rw [hi] at e1; cases e1
       rw [F7 hiσ] at e2
       cases e2
       exact ⟨u,r,.inr ⟨.inl hk,c,hc,hc'⟩⟩
     · rw [Gf (IX hj)] at e2
       obtain ⟨u',r',q⟩:=hl j y v' e1 e2 e3
       refine ⟨u',r',?_⟩
       rcases q with q | ⟨k,c',e,z'⟩
       · exact .inl q
       · refine .inr ⟨k,c',e,z'.sameBut hs ?_⟩
         rintro rfl
         exact hj (jD hN e1 (I.ok.inj _ _ _ e hc ▸ hi))
   · by_cases hcc:c'=c
     · subst hcc; exact ⟨_,hc'⟩
     · obtain ⟨w2,z2⟩:=I.cell y c' e
       exact ⟨w2,z2.sameBut hs hcc⟩
   · obtain ⟨e,n,ne,nf,d⟩:=I.pin p hp
     refine ⟨(hs.2 p.1 ?_).trans e,n,ne,nf,d⟩
     intro q
     rw [q,hoc] at e
     have q':oc=p.2:=F0 e
     exact d w' (by rw [← q']; exact hocd)
theorem ic {M:Kr} {A:w_} {E:d_→ge→Prop} {i:Nat} {x:Str} {v:V} {u:d_} {Q:Unit→ge→Prop} (I:Inv X pins σ H s) (hN:X.N.Nodup) (hi:X.N[i]?=a_ x) (hx:Loc X.env.scope x) (r:RelV v u)
 (h:∀ s',Inv X pins (σ.set i (a_ v)) H s'→Q () s') (hf:X.fn x=e_∨X.env.scope.names.lookup x=a_ .local:=by first | exact .inl rfl | exact .inr rfl | assumption):u_ M A (storeName X.env x u) Q E s :=
 oU I hN hi hx r (fun s' I' _=>h s' I') hf
theorem Inv.call' {s':ge} {ch:List i_} (I:Inv X pins σ H s) (ho:s'.os=s.os) (u:Un (frs X.stack) ch H H' s.heap s'.heap) (hok:HOk X.prog X.w H' s'.heap) (hg:IU s'.gens)
 (hch:∀ b∈ch,(b∈X.ex∨X.s₀.heap.objs.size≤b)∧b≠X.env.locals∧(∀ x c,X.env.cells.lookup x=a_ c→c≠b)∧∀ p∈X.pn ++ pins,p.1≠b):Inv X pins σ H' s':=by
 obtain ⟨h',g',d',t',o'⟩:=s'
 have e:o'=s.os:=ho
 subst e
 exact I.call (g':=g') (t':=t') (d':=d') u hok hg hch
end
abbrev XK:=d_→Option i_→Hp→Prop
abbrev St:=List (Option V)
abbrev VK:=V→Hp→Prop
abbrev TE:=St→Hp→VK→Prop
abbrev TT:=St→Hp→(Bool→Hp→Prop)→Prop
abbrev TA:=St→Hp→(List V→Hp→Prop)→Prop
structure oN where
 nx:St→Hp→Prop
 rt:VK
 bk:St→Hp→Prop:=fun _ _=>False
 ct:St→Hp→Prop:=fun _ _=>False
abbrev TS:=oN→St→Hp→Prop
def EP (X:Cx) (pins:List (i_×Obj)) (σ:St) (Q:VK) (u:d_) (s':ge):Prop:=∃ v H',Inv X pins σ H' s'∧RelV v u∧Q v H'
def TP (X:Cx) (pins:List (i_×Obj)) (σ:St) (Q:Bool→Hp→Prop) (b:Bool) (s':ge):Prop:=∃ H',Inv X pins σ H' s'∧Q b H'
def AP (X:Cx) (pins:List (i_×Obj)) (σ:St) (Q:List V→Hp→Prop) (us:List d_) (s':ge):Prop:=∃ vs H',Inv X pins σ H' s'∧Vals vs us∧Q vs H'
def SP (X:Cx) (pins:List (i_×Obj)) (D:oN) (f:Flow) (s':ge):Prop :=
 match f with
 | .next=>∃ σ' H',Inv X pins σ' H' s'∧D.nx σ' H'
 | .brk=>∃ σ' H',Inv X pins σ' H' s'∧D.bk σ' H'
 | .cont=>∃ σ' H',Inv X pins σ' H' s'∧D.ct σ' H'
 | .ret u=>∃ v σ' H',Inv X pins σ' H' s'∧RelV v u∧D.rt v H'
def PE (X:Cx) (e:C_) (t:TE):Prop :=
 ∀ (pins:List (i_×Obj)) (s:ge) (σ:St) (H:Hp) (Q:VK),Inv X pins σ H s→t σ H Q→u_ (x_ X.prog X.w) X.A (eval e X.env) (EP X pins σ Q) X.xe s
def PT (X:Cx) (e:C_) (t:TT):Prop :=
 ∀ (pins:List (i_×Obj)) (s:ge) (σ:St) (H:Hp) (Q:Bool→Hp→Prop),Inv X pins σ H s→t σ H Q→u_ (x_ X.prog X.w) X.A (isTrue e X.env (eval e X.env)) (TP X pins σ Q) X.xe s
def PW (X:Cx) (e:C_) (t:TT):Prop :=
 ∀ (whole:Sem d_) (pins:List (i_×Obj)) (s:ge) (σ:St) (H:Hp) (Q:Bool→Hp→Prop),Inv X pins σ H s→t σ H Q→u_ (x_ X.prog X.w) X.A (isTrue e X.env whole) (TP X pins σ Q) X.xe s
theorem PW.pt {X:Cx} {e:C_} {t:TT} (h:PW X e t):PT X e t:=h _
def PA (X:Cx) (es:List C_) (t:TA):Prop :=
 ∀ (pos:Pos) (pins:List (i_×Obj)) (s:ge) (σ:St) (H:Hp) (Q:List V→Hp→Prop),Inv X pins σ H s→t σ H Q→u_ (x_ X.prog X.w) X.A (MK (FP pos (h_ es X.env))) (AP X pins σ Q) X.xe s
def PS (X:Cx) (st:GT) (t:TS):Prop :=
 ∀ (pins:List (i_×Obj)) (s:ge) (σ:St) (H:Hp) (D:oN),Inv X pins σ H s→t D σ H→u_ (x_ X.prog X.w) X.A (exec st X.env) (SP X pins D) X.xe s
def PSs (X:Cx) (st:List GT) (t:TS):Prop :=
 ∀ (pins:List (i_×Obj)) (s:ge) (σ:St) (H:Hp) (D:oN),Inv X pins σ H s→t D σ H→u_ (x_ X.prog X.w) X.A (execs st X.env) (SP X pins D) X.xe s
theorem thn {α:Type} {t:Sem α} {Q Q':α→ge→Prop} {M:Kr} {A:w_} {E:d_→ge→Prop} {s:ge} (h:u_ M A t Q E s) (hQ:∀ a s,Q a s→Q' a s):u_ M A t Q' E s:=FU h hQ fun _ _ x=>x
section
variable {X:Cx}
def xU (i:Nat):TE:=fun σ H Q=>∃ v,σ[i]?=a_ (a_ v)∧Q v H
def tC (v:V):TE:=fun _ H Q=>Q v H
theorem oV {i:Nat} {x:Str} {pos:Pos} (hN:X.N[i]?=a_ x) (hv:Vis X.env.scope x) (hd:(x == ("__debug__":Str))=f_:=by decide) (hcd:(x == ("__classdict__":Str))=f_:=by decide):PE X (.Name x pos) (xU i):=by
 intro pins s σ H Q I h
 obtain ⟨v,e,h⟩:=h
 obtain ⟨m,hn,hl⟩:=I.loc
 obtain ⟨u,r,l⟩:=hl i x v hN e hv
 have fin:EP X pins σ Q u s:=⟨v,H,I,r,h⟩
 rcases l with ⟨hk,hm⟩ | ⟨hk,c,hc,hcell⟩
 · exact wpAny_Name (wpAny_loadName_local I.ok.kind hk hn hm fin) hd
 · rcases hk with hk | hk
   · exact wpAny_Name (wpAny_loadName_cell I.ok.kind hk hc hcell fin) hd
   · exact wpAny_Name (wpAny_loadName_free I.ok.kind hk hc hcell fin hcd) hd
theorem xV {i j pos}:PE X (.Constant (.int i) j pos) (tC (.int i)):=fun _ _ _ H _ I h=>wpAny_Constant_int ⟨.int i,H,I.tok _,⟨_,rfl⟩,h⟩
theorem BJ {b j pos}:PE X (.Constant (.bool b) j pos) (tC (.bl b)):=fun _ _ _ H _ I h=>Constant_bool ⟨.bl b,H,I,rfl,h⟩
theorem xW {j pos}:PE X (.Constant .none j pos) (tC .non):=fun _ _ _ H _ I h=>Constant_none ⟨.non,H,I,rfl,h⟩
theorem xX {x j pos}:PE X (.Constant (.str x) j pos) (tC (.str x)):=fun _ _ _ H _ I h=>Calls.Constant_str ⟨.str x,H,I.tok _,⟨_,rfl⟩,h⟩
def Gl (X:Cx) (x:Str):Prop:=X.env.kindOf x=a_ .globalImplicit
theorem il {E:d_→ge→Prop} {pins:List (i_×Obj)} {s:ge} {σ:St} {H:Hp} {x:Str} {u:d_} {pos:Pos} {Q:d_→ge→Prop} (I:Inv X pins σ H s) (hg:Gl X x) (hm:X.mg x=a_ u) (h:Q u s)
 (hd:(x == ("__debug__":Str))=f_:=by decide):u_ (x_ X.prog X.w) X.A (eval (.Name x pos) X.env) Q E s :=
 JP I.ok.kind hg (Calls.loadGlobal_global (by rw [I.ok.glob]; exact I.mod.glob.keeps I.bk) hm h) hd
theorem et {E:d_→ge→Prop} {pins:List (i_×Obj)} {s:ge} {σ:St} {H:Hp} {x:Str} {u:d_} {pos:Pos} {Q:d_→ge→Prop} (I:Inv X pins σ H s) (hg:Gl X x) (hm:X.mg x=ck) (hv:Go x=a_ u) (h:Q u s)
 (hn:x≠"__name__":=by decide) (hd:(x == ("__debug__":Str))=f_:=by decide):u_ (x_ X.prog X.w) X.A (eval (.Name x pos) X.env) Q E s:=by
 obtain ⟨mb,h1,h2⟩:=I.mod.blt
 exact JP I.ok.kind hg (Calls.loadGlobal_builtin (by rw [I.ok.glob]; exact I.mod.glob.keeps I.bk) hm (by rw [I.ok.blt]; exact h1.keeps I.bk) ((h2 x hn).trans hv) h) hd
theorem gE {x:Str} {v:V} {u:d_} {pos:Pos} (hg:Gl X x) (hm:X.mg x=a_ u) (r:RelV v u) (hd:(x == ("__debug__":Str))=f_:=by decide):PE X (.Name x pos) (tC v) :=
 fun _ _ _ H _ I h=>il I hg hm ⟨v,H,I,r,h⟩ hd
theorem oW {x:Str} {v:V} {u:d_} {pos:Pos} (hg:Gl X x) (hm:X.mg x=ck) (hv:Go x=a_ u) (r:RelV v u) (hn:x≠"__name__":=by decide) (hd:(x == ("__debug__":Str))=f_:=by decide):PE X (.Name x pos) (tC v) :=
 fun _ _ _ H _ I h=>et I hg hm hv ⟨v,H,I,r,h⟩ hn hd
variable {a b:C_} {ta tb:TE} {pos:Pos}
def tB (t:TE):TT:=fun σ H Q=>t σ H fun x H1=>∃ c,x=.bl c∧Q c H1
theorem xY {e:C_} {t:TE} (h:PE X e t) (he:∀ whole,isTrue e X.env whole=(do let v ← whole; standAt e.pos; holding [v] (truthy v)):=by intro _; rfl):PT X e (tB t):=by
 intro pins s σ H Q I hw
 refine isTrue_plain (thn (h pins s σ H _ I hw) fun v s1 ⟨x,H1,I1,r1,q1⟩=>?_) (he _)
 obtain ⟨d,rfl,q⟩:=q1
 cases r1
 exact Hn ⟨H1,I1,q⟩
variable {tA tB':TT} {rest:List C_}
def EB (t u:TT):TT:=fun σ H Q=>t σ H fun c H1=>if c=e_ then u σ H1 Q else Q f_ H1
def tOr (t u:TT):TT:=fun σ H Q=>t σ H fun c H1=>if c=e_ then Q e_ H1 else u σ H1 Q
def EC (t:TT):TT:=fun σ H Q=>t σ H fun c H1=>Q (!c) H1
theorem uU (ha:PT X a tA):PW X (.BoolOp .And [a] pos) tA:=by
 intro wh pins s σ H Q I h
 refine isTrue_and (thn (ha pins s σ H Q I h) fun c s1 e=>?_)
 cases c with
 | true=>exact isTrue_and_nil e
 | false=>exact e
theorem xZ (ha:PT X a tA):PW X (.BoolOp .Or [a] pos) tA:=by
 intro wh pins s σ H Q I h
 refine isTrue_or (thn (ha pins s σ H Q I h) fun c s1 e=>?_)
 cases c with
 | false=>exact isTrue_or_nil e
 | true=>exact e
theorem ya (ha:PT X a tA) (hb:PW X (.BoolOp .And (b :: rest) pos) tB'):PW X (.BoolOp .And (a :: b :: rest) pos) (EB tA tB'):=by
 intro wh pins s σ H Q I h
 refine isTrue_and (thn (ha pins s σ H _ I h) fun c s1 ⟨H1,I1,q1⟩=>?_)
 cases c with
 | true=>exact hb wh pins s1 σ H1 Q I1 q1
 | false=>exact ⟨H1,I1,q1⟩
theorem BK (ha:PT X a tA) (hb:PW X (.BoolOp .Or (b :: rest) pos) tB'):PW X (.BoolOp .Or (a :: b :: rest) pos) (tOr tA tB'):=by
 intro wh pins s σ H Q I h
 refine isTrue_or (thn (ha pins s σ H _ I h) fun c s1 ⟨H1,I1,q1⟩=>?_)
 cases c with
 | true=>exact ⟨H1,I1,q1⟩
 | false=>exact hb wh pins s1 σ H1 Q I1 q1
theorem yb (ha:PT X a tA):PT X (.UnaryOp .Not a pos) (EC tA):=by
 intro pins s σ H Q I h
 exact isTrue_not (ha pins s σ H (fun c H1=>Q (!c) H1) I h)
def BL (ta tb:TE):TE:=fun σ H Q=>ta σ H fun x H1=>∃ c,x=.bl c∧if c=e_ then tb σ H1 Q else Q (.bl f_) H1
def ED (ta tb:TE):TE:=fun σ H Q=>ta σ H fun x H1=>∃ c,x=.bl c∧if c=e_ then Q (.bl e_) H1 else tb σ H1 Q
def BM (ta:TE):TE:=fun σ H Q=>ta σ H fun x H1=>∃ c,x=.bl c∧Q (.bl (!c)) H1
theorem yc {op} {t:TE} (h:PE X a t):PE X (.BoolOp op [a] pos) t:=fun pins s σ H Q I hw=>BoolOp_one (h pins s σ H Q I hw)
theorem yd (ha:PE X a ta) (hb:PE X (.BoolOp .And (b :: rest) pos) tb):PE X (.BoolOp .And (a :: b :: rest) pos) (BL ta tb):=by
 intro pins s σ H Q I h
 refine BoolOp_and (thn (ha pins s σ H _ I h) fun v s1 ⟨x,H1,I1,r1,q1⟩=>?_)
 obtain ⟨c,rfl,q1⟩:=q1
 cases r1
 refine Hn ?_
 cases c with
 | true=>exact hb pins s1 σ H1 Q I1 q1
 | false=>exact ⟨.bl f_,H1,I1,rfl,q1⟩
theorem BN (ha:PE X a ta) (hb:PE X (.BoolOp .Or (b :: rest) pos) tb):PE X (.BoolOp .Or (a :: b :: rest) pos) (ED ta tb):=by
 intro pins s σ H Q I h
 refine BoolOp_or (thn (ha pins s σ H _ I h) fun v s1 ⟨x,H1,I1,r1,q1⟩=>?_)
 obtain ⟨c,rfl,q1⟩:=q1
 cases r1
 refine Hn ?_
 cases c with
 | false=>exact hb pins s1 σ H1 Q I1 q1
 | true=>exact ⟨.bl e_,H1,I1,rfl,q1⟩
theorem ye (ha:PE X a ta):PE X (.UnaryOp .Not a pos) (BM ta):=by
 intro pins s σ H Q I h
 refine UnaryOp_ (thn (ha pins s σ H _ I h) fun v s1 ⟨x,H1,I1,r1,q1⟩=>?_)
 obtain ⟨c,rfl,q1⟩:=q1
 cases r1
 exact not_of (Hn ⟨.bl (!c),H1,I1,rfl,q1⟩)
def tIf (t:TT) (ta tb:TE):TE:=fun σ H Q=>t σ H fun c H1=>if c=e_ then ta σ H1 Q else tb σ H1 Q
theorem rQ {c:C_} (hc:PT X c tA) (ha:PE X a ta) (hb:PE X b tb):PE X (.IfExp c a b pos) (tIf tA ta tb):=by
 intro pins s σ H Q I h
 refine wpAny_IfExp (thn (hc pins s σ H _ I h) fun d s1 ⟨H1,I1,q1⟩=>?_)
 cases d with
 | true=>exact ha pins s1 σ H1 Q I1 q1
 | false=>exact hb pins s1 σ H1 Q I1 q1
end
def SqL (K:c_) (H:Hp) (a:i_) (xs:List V):Prop :=
 Rd H a (.lst xs) ∨
  ∃ (o:Obj) (its:Array d_) (n:Nat),K.lookup a=a_ o∧o.cls=.type "list"∧o.dict=ck∧o.data=.seq its n∧its.size≤sizeLine∧Vals xs its.toList
def SqT (K:c_) (H:Hp) (a:i_) (xs:List V):Prop :=
 Rd H a (.tup xs) ∨
  ∃ (o:Obj) (its:Array d_) (n:Nat),K.lookup a=a_ o∧o.cls=.type "tuple"∧o.data=.seq its n∧its.size≤sizeLine∧Vals xs its.toList
def EE:d_→Option V
 | .none=>a_ .non
 | .bool b=>a_ (.bl b)
 | .int i _=>a_ (.int i)
 | .str x _=>a_ (.str x)
 | .bytes b _=>a_ (.byt b)
 | .float b _=>a_ (.flt b)
 | .ref a=>a_ (.ref a)
 | .type n=>a_ (.ty n)
 | _=>ck
theorem RelV.abs {x:V} {u:d_} (r:RelV x u):EE u=a_ x:=by
 cases x with
 | non=>cases r; rfl
 | bl _=>cases r; rfl
 | int _=>obtain ⟨t,rfl⟩:=r; rfl
 | str _=>obtain ⟨t,rfl⟩:=r; rfl
 | byt _=>obtain ⟨t,rfl⟩:=r; rfl
 | flt _=>obtain ⟨t,rfl⟩:=r; rfl
 | ref _=>cases r; rfl
 | ty _=>cases r; rfl
theorem RelV.inj {x y:V} {u:d_} (r:RelV x u) (q:RelV y u):x=y:=F0 (r.abs.symm.trans q.abs)
theorem Vals.inj:∀ {xs ys:List V} {us:List d_},Vals xs us→Vals ys us→xs=ys
 | _,_,_,.nil,.nil=>rfl
 | _,_,_,.cons r t,.cons r' t'=>by rw [r.inj r',Vals.inj t t']
section
variable {X:Cx} {pins:List (i_×Obj)} {σ:St} {H:Hp} {s:ge} {a:i_} {xs ys:List V}
theorem SqL.of {K:c_} (h:H a=a_ (.lst xs)):SqL K H a xs:=.inl (.inl h)
theorem SqT.of {K:c_} (h:H a=a_ (.tup xs)):SqT K H a xs:=.inl (.inl h)
theorem Inv.list (I:Inv X pins σ H s) (h:SqL X.K H a xs):∃ its:List d_,Vals xs its∧PlainL s.heap a its.toArray∧xs.length≤sizeLine:=by
 rcases h with h | ⟨o,its,n,hk,hc,hd,hs,hz,r⟩
 · obtain ⟨z,its,n,r,e⟩:=h.ok I.hok
   exact ⟨its,r,⟨_,n,e,rfl,rfl,rfl⟩,z⟩
 · refine ⟨its.toList,r,⟨o,n,I.kIn a o hk,hc,hd,by simpa using hs⟩,?_⟩
   have e:=r.length
   simp only [Gi] at e
   omega
theorem Inv.tuple (I:Inv X pins σ H s) (h:SqT X.K H a xs):∃ its:List d_,Vals xs its∧MT s.heap a its.toArray∧xs.length≤sizeLine:=by
 rcases h with h | ⟨o,its,n,hk,hc,hs,hz,r⟩
 · obtain ⟨z,its,r,p⟩:=h.ok I.hok
   exact ⟨its,r,p,z⟩
 · refine ⟨its.toList,r,⟨o,I.kIn a o hk,hc,n,by simpa using hs⟩,?_⟩
   have e:=r.length
   simp only [Gi] at e
   omega
theorem Inv.list_inj (I:Inv X pins σ H s) (h:SqL X.K H a xs) (h':SqL X.K H a ys):xs=ys:=by
 obtain ⟨its,r,⟨o,n,e,_,_,d⟩,_⟩:=I.list h
 obtain ⟨its',r',⟨o',n',e',_,_,d'⟩,_⟩:=I.list h'
 rw [e] at e'; cases e'
 rw [d] at d'
 injection d' with d1 _
 have:its=its':=by simpa using congrArg Array.toList d1
 subst this
 exact r.inj r'
theorem Inv.tuple_inj (I:Inv X pins σ H s) (h:SqT X.K H a xs) (h':SqT X.K H a ys):xs=ys:=by
 obtain ⟨its,r,⟨o,e,_,n,d⟩,_⟩:=I.tuple h
 obtain ⟨its',r',⟨o',e',_,n',d'⟩,_⟩:=I.tuple h'
 rw [e] at e'; cases e'
 rw [d] at d'
 injection d' with d1 _
 have:its=its':=by simpa using congrArg Array.toList d1
 subst this
 exact r.inj r'
end
abbrev Cx.wish (X:Cx) (E:d_→ge→Prop):Cx:={ X with xe:=E }
abbrev Cx.nox (X:Cx):Cx:=X.wish fun _ _=>False
theorem Cx.Ok.wish {X:Cx} (ok:X.Ok) (E:d_→ge→Prop):(X.wish E).Ok :=
 ⟨ok.mod,ok.kind,ok.glob,ok.blt,ok.above,ok.inj,ok.has,ok.cab,ok.hd,ok.frames,ok.stk,ok.exf,ok.bs,ok.bsz,ok.noex,ok.exfs,ok.funs,ok.frf⟩
theorem Cx.Ok.unwish {X:Cx} {E:d_→ge→Prop} (ok:(X.wish E).Ok):X.Ok :=
 ⟨ok.mod,ok.kind,ok.glob,ok.blt,ok.above,ok.inj,ok.has,ok.cab,ok.hd,ok.frames,ok.stk,ok.exf,ok.bs,ok.bsz,ok.noex,ok.exfs,ok.funs,ok.frf⟩
section
variable {X:Cx} {pins:List (i_×Obj)} {σ:St} {H:Hp} {s:ge} {E:d_→ge→Prop}
theorem Inv.wish (I:Inv X pins σ H s) (E:d_→ge→Prop):Inv (X.wish E) pins σ H s:=⟨I.ok.wish E,I.os,I.bare,I.base,I.loc,I.cell,I.free,I.freeC,I.pin,I.hok,I.len⟩
theorem Inv.unwish (I:Inv (X.wish E) pins σ H s):Inv X pins σ H s:=⟨I.ok.unwish,I.os,I.bare,I.base,I.loc,I.cell,I.free,I.freeC,I.pin,I.hok,I.len⟩
theorem SP.unwish {D:oN} {f:Flow} {s':ge} (h:SP (X.wish E) pins D f s'):SP X pins D f s':=by
 cases f with
 | next=>obtain ⟨σ',H',I,q⟩:=h; exact ⟨σ',H',I.unwish,q⟩
 | brk=>obtain ⟨σ',H',I,q⟩:=h; exact ⟨σ',H',I.unwish,q⟩
 | cont=>obtain ⟨σ',H',I,q⟩:=h; exact ⟨σ',H',I.unwish,q⟩
 | ret u=>obtain ⟨v,σ',H',I,r,q⟩:=h; exact ⟨v,σ',H',I.unwish,r,q⟩
theorem PE.nox {e:C_} {t:TE} (h:PE X.nox e t):PE X e t:=fun pins s σ H Q I hw =>
 FU (h pins s σ H Q (I.wish _) hw) (fun _ _ ⟨v,H',I',r,q⟩=>⟨v,H',I'.unwish,r,q⟩) fun _ _ z=>FK z
theorem PT.nox {e:C_} {t:TT} (h:PT X.nox e t):PT X e t:=fun pins s σ H Q I hw =>
 FU (h pins s σ H Q (I.wish _) hw) (fun _ _ ⟨H',I',q⟩=>⟨H',I'.unwish,q⟩) fun _ _ z=>FK z
theorem PSs.nox {st:List GT} {t:TS} (h:PSs X.nox st t):PSs X st t:=fun pins s σ H D I hw =>
 FU (h pins s σ H D (I.wish _) hw) (fun _ _ q=>q.unwish) fun _ _ z=>FK z
end
section
variable {X:Cx} {st:GT} {rest:List GT} {t u:TS} {e:C_} {te:TE} {pos:Pos}
def BO:TS:=fun D σ H=>D.nx σ H
def EF (t u:TS):TS:=fun D σ H=>t { D with nx:=u D } σ H
theorem oX:PSs X [] BO:=fun _ _ σ H _ I h=>K0 ⟨σ,H,I,h⟩
theorem jE (h1:PS X st t) (h2:PSs X rest u):PSs X (st :: rest) (EF t u):=by
 intro pins s σ H D I h
 refine wpAny_execs_cons (thn (h1 pins s σ H { D with nx:=u D } I h) fun f s1 q=>?_)
 cases f with
 | next =>
  obtain ⟨σ',H',I',q⟩:=q
  exact h2 pins s1 σ' H' D I' q
 | ret v=>exact q
 | brk=>exact q
 | cont=>exact q
theorem oY (h1:PS X st t):PSs X [st] t:=by
 intro pins s σ H D I h
 refine wpAny_execs_cons (thn (h1 pins s σ H D I h) fun f s1 q=>?_)
 cases f with
 | next=>exact K0 q
 | ret v=>exact q
 | brk=>exact q
 | cont=>exact q
theorem Inv.quiet {pins:List (i_×Obj)} {σ:St} {H:Hp} {s:ge} (I:Inv X pins σ H s):interactive X.env=f_:=by simp [interactive,I.ok.kind]
def BP (te:TE):TS:=fun D σ H=>te σ H fun _ H1=>D.nx σ H1
theorem oZ (he:PE X e te) (hs:G7 e ck pos.line X.env=pure f_:=by rfl):PS X (.Expr e pos) (BP te):=by
 intro pins s σ H D I h
 exact wpAny_Expr_any (thn (he pins s σ H _ I h) fun v s1 ⟨x,H1,I1,r1,q1⟩=>⟨σ,H1,I1,q1⟩) I.quiet hs
def EG (te:TE):TS:=fun D σ H=>te σ H D.rt
theorem ud (he:PE X e te):PS X (.Return (a_ e) pos) (EG te):=by
 intro pins s σ H D I h
 exact wpAny_Return_some (thn (he pins s σ H _ I h) fun v s1 ⟨x,H1,I1,r1,q1⟩=>⟨x,σ,H1,I1,r1,q1⟩)
def EH (c:TT) (t u:TS):TS:=fun D σ H=>c σ H fun b H1=>if b=e_ then t D σ H1 else u D σ H1
theorem yf {c:C_} {a b:List GT} {tc:TT} (hc:PT X c tc) (ha:PSs X a t) (hb:PSs X b u):PS X (.If c a b pos) (EH tc t u):=by
 intro pins s σ H D I h
 refine wpAny_If (thn (hc pins s σ H _ I h) fun d s1 ⟨H1,I1,q1⟩=>?_)
 cases d with
 | true=>exact ha pins s1 σ H1 D I1 q1
 | false=>exact hb pins s1 σ H1 D I1 q1
end
abbrev TG:=V→St→Hp→(St→Hp→Prop)→Prop
abbrev TGs:=List V→St→Hp→(St→Hp→Prop)→Prop
def PG (X:Cx) (target:C_) (t:TG):Prop :=
 ∀ (pins:List (i_×Obj)) (s:ge) (σ:St) (H:Hp) (v:V) (u:d_) (Q:St→Hp→Prop),Inv X pins σ H s→RelV v u→t v σ H Q →
  u_ (x_ X.prog X.w) X.A (Kl target X.env u) (fun _ s'=>∃ σ' H',Inv X pins σ' H' s'∧Q σ' H') X.xe s
def PGs (X:Cx) (ts:List C_) (t:TGs):Prop :=
 ∀ (pins:List (i_×Obj)) (s:ge) (σ:St) (H:Hp) (vs:List V) (us:List d_) (Q:St→Hp→Prop),Inv X pins σ H s→Vals vs us→t vs σ H Q →
  u_ (x_ X.prog X.w) X.A (assignInOrder ((Gz ts X.env).map (·.2)) us) (fun _ s'=>∃ σ' H',Inv X pins σ' H' s'∧Q σ' H') X.xe s
section
variable {X:Cx} {pos:Pos}
def rR (i:Nat):TG:=fun v σ H Q=>Q (σ.set i (a_ v)) H
theorem gF {i:Nat} {x:Str} (hN:X.N.Nodup) (hi:X.N[i]?=a_ x) (hx:Loc X.env.scope x) (hf:X.fn x=e_∨X.env.scope.names.lookup x=a_ .local:=by first | exact .inl rfl | exact .inr rfl | assumption):PG X (.Name x pos) (rR i):=by
 intro pins s σ H v u Q I r h
 exact wpAny_assign_Name (ic I hN hi hx r (fun s' I'=>⟨_,H,I',h⟩) hf)
def EI:TGs:=fun vs σ H Q=>vs=[]∧Q σ H
def BQ (t:TG) (u:TGs):TGs:=fun vs σ H Q=>∃ v r,vs=v :: r∧t v σ H fun σ' H'=>u r σ' H' Q
theorem uV:PGs X [] EI:=by
 intro pins s σ H vs us Q I r h
 obtain ⟨e,h⟩:=h
 subst e
 cases r
 exact assignInOrder_nil ⟨σ,H,I,h⟩
theorem mF {e:C_} {es:List C_} {t:TG} {u:TGs} (h1:PG X e t) (h2:PGs X es u)
 (hs:(Gz (e :: es) X.env).map (·.2)=Kl e X.env :: (Gz es X.env).map (·.2):=by rfl):PGs X (e :: es) (BQ t u):=by
 intro pins s σ H vs us Q I r h
 obtain ⟨v,vr,e1,h⟩:=h
 subst e1
 cases r with
 | cons r rr =>
  rw [hs]
  refine assignInOrder_cons (thn (h1 pins s σ H _ _ _ I r h) fun _ s1 ⟨σ1,H1,I1,q1⟩=>?_)
  exact h2 pins s1 σ1 H1 _ _ Q I1 rr q1
def EJ (K:c_) (n:Nat) (t:TGs):TG:=fun v σ H Q=>∃ a xs,v=.ref a∧SqT K H a xs∧xs.length=n∧t xs σ H Q
theorem yg {es:List C_} {k:Nat} {t:TGs} {n:Nat} (hc:X.calm=e_) (h:PGs X es t)
 (hn:(Gz es X.env).length=n:=by rfl) (hst:(Gz es X.env).findIdx? (·.1)=ck:=by rfl):PG X (.Tuple es k pos) (EJ X.K n t):=by
 intro pins s σ H v u Q I r hw
 obtain ⟨a,xs,e1,hq,hl,hw⟩:=hw
 subst e1
 cases r
 obtain ⟨its,rv,ht,hz⟩:=I.tuple hq
 refine assign_Tuple_tuple (I.ok.hd hc) ht (by simp [hn,← hl,rv.length]) hst fun h' hx=>?_
 have I1:Inv X pins σ H { s with heap:=h' }:=I.kept (t':=s.toks) fun b o e=>hx b o (FM (v_ e)) e
 exact h pins _ σ H xs _ Q I1 (by simpa using rv) hw
def EK (te:TE) (g:TG):TS:=fun D σ H=>te σ H fun x H1=>g x σ H1 D.nx
theorem o5 {i:Nat} {x:Str} {e:C_} {te:TE} {pos':Pos} (hN:X.N.Nodup) (hi:X.N[i]?=a_ x) (hx:Loc X.env.scope x) (he:PE X e te) (hs:G7 e (a_ (.Name x pos')) pos.line X.env=pure f_:=by rfl) (hf:X.fn x=e_∨X.env.scope.names.lookup x=a_ .local:=by first | exact .inl rfl | exact .inr rfl | assumption) :
 PS X (.Assign [.Name x pos'] e pos) (EK te (rR i)):=by
 intro pins s σ H D I h
 refine wpAny_Assign_Name (thn (he pins s σ H _ I h) fun v s1 ⟨y,H1,I1,r1,q1⟩=>?_) hs
 exact ic I1 hN hi hx r1 (fun s2 I2=>⟨_,H1,I2,q1⟩) hf
end
section
variable {X:Cx} {pos:Pos}
end
structure It where
 go:Nat→Hp→Prop
 yld:Nat→Hp→V→Hp→Prop
 stop:Nat→Hp→Prop
def mG (X:Cx) (pins:List (i_×Obj)) (H:Hp) (b:i_):Prop :=
 H b=ck∧b≠X.env.locals∧b ∉ X.fs∧(b∈X.ex∨X.s₀.heap.objs.size≤b)∧(∀ x c,X.env.cells.lookup x=a_ c→c≠b)∧∀ p∈X.pn ++ pins,p.1≠b
theorem Inv.fpOk {X:Cx} {pins:List (i_×Obj)} {σ:St} {H H':Hp} {s:ge} {b:i_} (I:Inv X pins σ H s) (hb:s.heap.objs.size≤b) (hn:H' b=ck):mG X pins H' b:=by
 refine ⟨hn,KU (D_ I.lt hb),I.nofs hb,.inr (F6 I.sz hb),fun x c e z=>?_,fun p hp z=>?_⟩
 · obtain ⟨v,q⟩:=I.cell x c e
   exact absurd (D_ q.lt (by rw [z]; exact hb)) (GO _)
 · exact absurd (D_ (v_ (I.pin p hp).1) (by rw [z]; exact hb)) (GO _)
structure ue (P:n_) (w:y_) (K:c_) (tg:C_) (J:It) (fp:List i_) (it:i_) (tn:Nat→FF→Prop):Prop where
 mem:it∈fp
 obj:∀ i h,tn i h→∀ b∈fp,∃ o,h.get? b=a_ o∧∀ v,o.data≠.cell v
 keep:∀ i h h',tn i h→(∀ b∈fp,∀ o,h.get? b=a_ o→h'.get? b=a_ o)→tn i h'
 item:∀ (X:Cx),X.prog=P→X.w=w→X.K=K→X.calm=e_→∀ (i:Nat) (pins:List (i_×Obj)) (s:ge) (σ:St) (H:Hp) (E:d_→ge→Prop),Inv X pins σ H s→(∀ b∈fp,mG X pins H b)→tn i s.heap→J.go i H →
  u_ (x_ P w) X.A (pyNext (.ref it)) (fun r s1=>∃ u,r=a_ u ∧
   u_ (x_ P w) X.A (Js tg (.ref it) u) (fun _ s2=>∃ x H',Inv X pins σ H' s2∧RelV x u∧J.yld i H x H'∧tn (i + 1) s2.heap∧∀ b∈fp,H' b=ck) E s1) E s
 done:∀ (X:Cx),X.prog=P→X.w=w→X.K=K→X.calm=e_→∀ (i:Nat) (pins:List (i_×Obj)) (s:ge) (σ:St) (H:Hp) (E:d_→ge→Prop),Inv X pins σ H s→(∀ b∈fp,mG X pins H b)→tn i s.heap→J.stop i H →
  u_ (x_ P w) X.A (pyNext (.ref it)) (fun r s1=>r=ck∧Inv X pins σ H s1) E s
 self:∀ (A:w_) (i:Nat) (s:ge) (Q:d_→ge→Prop) (E:d_→ge→Prop),tn i s.heap→Q (.ref it) s→u_ (x_ P w) A (pyIter (.ref it)) Q E s
abbrev TI:=St→Hp→(It→Hp→Prop)→Prop
def PIE (X:Cx) (pins:List (i_×Obj)) (σ:St) (tg:C_) (R:It→Hp→Prop) (itv:d_) (s2:ge):Prop :=
 ∃ (it:i_) (fp:List i_) (tn:Nat→FF→Prop) (J:It) (H':Hp),itv=.ref it∧Inv X pins σ H' s2∧ue X.prog X.w X.K tg J fp it tn∧tn 0 s2.heap∧(∀ b∈fp,mG X pins H' b)∧R J H'
def PI (X:Cx) (tg iter:C_) (wi:TI):Prop :=
 ∀ (pins:List (i_×Obj)) (s:ge) (σ:St) (H:Hp) (R:It→Hp→Prop),Inv X pins σ H s→wi σ H R →
  u_ (x_ X.prog X.w) X.A (eval iter X.env) (fun v s1=>u_ (x_ X.prog X.w) X.A (pyIter v) (PIE X pins σ tg R) X.xe s1) X.xe s
theorem kf {M:Kr} {A:w_} {E:d_→ge→Prop} {s:ge} {tg:C_} {it:i_} {u:d_} {o:Obj} {n:String} {vs:Array d_} {Q:Unit→ge→Prop} (ho:s.heap.get? it=a_ o) (hc:o.cls=.type n) (hd:o.data=.fields vs)
 (hn:["enumerate","zip","dict_itemiterator","dict_reverseitemiterator","odict_iterator","itertools.zip_longest","itertools.pairwise"].contains n=f_) (hQ:Q () s):u_ M A (Js tg (.ref it) u) Q E s:=by
 unfold Js
 cases tg <;> first
  | exact j_ hQ
  | (cases u <;> first
      | exact j_ hQ
      | (refine g_ (wpAny_load ho ?_)
         rw [hc,hd]
         show u_ M A (if (["enumerate","zip","dict_itemiterator","dict_reverseitemiterator","odict_iterator","itertools.zip_longest","itertools.pairwise"].contains n && vs[0]? == a_ (MM _))=e_ then _ else _) Q E s
         rw [if_neg (by intro h; rw [hn,Bool.false_and] at h; cases h)]
         exact j_ hQ))
def Itl (K:c_) (a:i_):It :=
 ⟨fun i H=>∃ xs x,SqL K H a xs∧xs[i]?=a_ x,fun i H x H'=>H'=H∧∀ xs,SqL K H a xs→xs[i]?=a_ x,fun i H=>∃ xs,SqL K H a xs∧xs.length≤i⟩
def Itt (K:c_) (a:i_):It :=
 ⟨fun i H=>∃ xs x,SqT K H a xs∧xs[i]?=a_ x,fun i H x H'=>H'=H∧∀ xs,SqT K H a xs→xs[i]?=a_ x,fun i H=>∃ xs,SqT K H a xs∧xs.length≤i⟩
def Itr (lo:Int) (n:Nat):It:=⟨fun i _=>i < n,fun i H x H'=>H'=H∧x=.int (lo + i),fun i _=>n≤i⟩
theorem o6 {P:n_} {w:y_} {K:c_} {tg:C_} (a it:i_):ue P w K tg (Itl K a) [it] it (fun i h=>h.IsListIter it a i) where
 mem:=by simp
 obj:=fun i h st b hb=>by
  have e:b=it:=by simpa using hb
  subst e
  obtain ⟨o,e,c,d⟩:=st
  exact ⟨o,e,fun v z=>by rw [d] at z; cases z⟩
 keep:=fun i h h' st k=>st.at fun o e=>k it (by simp) o e
 item:=by
  intro X hP hw hK hc i pins s σ H E I hf st hg
  subst hP hw hK
  obtain ⟨xs,x,hq,hx⟩:=hg
  obtain ⟨its,rv,p,hz⟩:=I.list hq
  obtain ⟨u,hu,ru⟩:=rv.get hx
  obtain ⟨f0,f1,f2,f3,f4,f5⟩:=hf it (by simp)
  refine wpAny_pyNext_list_item st p.isList (x:=u) (by simpa using hu) fun h' st' sb=>?_
  have I1:Inv X pins σ H { s with heap:=h' }:=I.turned (t':=s.toks) (fun b o hb e=>(sb.2 b hb).trans e) f0 f1 f3 f4 f5
  obtain ⟨o,e,c,d⟩:=id st'
  exact ⟨u,rfl,kf (s:={ s with heap:=h' }) e c d (by decide) ⟨x,H,I1,ru,⟨rfl,fun ys hy=>by rw [I.list_inj hy hq]; exact hx⟩,st',fun b hb=>(hf b hb).1⟩⟩
 done:=by
  intro X hP hw hK hc i pins s σ H E I hf st hg
  subst hP hw hK
  obtain ⟨xs,hq,hx⟩:=hg
  obtain ⟨its,rv,p,hz⟩:=I.list hq
  obtain ⟨f0,f1,f2,f3,f4,f5⟩:=hf it (by simp)
  have hl:=rv.length
  exact wpAny_pyNext_list_end (I.ok.hd hc) st p.isList (by simp; omega) fun h' eb=>⟨rfl,I.turned (t':=s.toks) (fun b o hb e=>eb b o hb e) f0 f1 f3 f4 f5⟩
 self:=fun _ _ _ _ _ st h=>wpAny_pyIter_listiter st h
theorem nR {P:n_} {w:y_} {K:c_} {tg:C_} (a it:i_):ue P w K tg (Itt K a) [it] it (fun i h=>h.IsTupleIter it a i) where
 mem:=by simp
 obj:=fun i h st b hb=>by
  have e:b=it:=by simpa using hb
  subst e
  obtain ⟨o,e,c,d⟩:=st
  exact ⟨o,e,fun v z=>by rw [d] at z; cases z⟩
 keep:=fun i h h' st k=>st.at fun o e=>k it (by simp) o e
 item:=by
  intro X hP hw hK hc i pins s σ H E I hf st hg
  subst hP hw hK
  obtain ⟨xs,x,hq,hx⟩:=hg
  obtain ⟨its,rv,p,hz⟩:=I.tuple hq
  obtain ⟨u,hu,ru⟩:=rv.get hx
  obtain ⟨f0,f1,f2,f3,f4,f5⟩:=hf it (by simp)
  refine wpAny_pyNext_tuple_item st (show s.heap.IsTuple a its.toArray from p) (x:=u) (by simpa using hu) fun h' st' sb=>?_
  have I1:Inv X pins σ H { s with heap:=h' }:=I.turned (t':=s.toks) (fun b o hb e=>(sb.2 b hb).trans e) f0 f1 f3 f4 f5
  obtain ⟨o,e,c,d⟩:=id st'
  exact ⟨u,rfl,kf (s:={ s with heap:=h' }) e c d (by decide) ⟨x,H,I1,ru,⟨rfl,fun ys hy=>by rw [I.tuple_inj hy hq]; exact hx⟩,st',fun b hb=>(hf b hb).1⟩⟩
 done:=by
  intro X hP hw hK hc i pins s σ H E I hf st hg
  subst hP hw hK
  obtain ⟨xs,hq,hx⟩:=hg
  obtain ⟨its,rv,p,hz⟩:=I.tuple hq
  obtain ⟨f0,f1,f2,f3,f4,f5⟩:=hf it (by simp)
  have hl:=rv.length
  exact wpAny_pyNext_tuple_end (I.ok.hd hc) st (show s.heap.IsTuple a its.toArray from p) (by simp; omega) fun h' eb=>⟨rfl,I.turned (t':=s.toks) (fun b o hb e=>eb b o hb e) f0 f1 f3 f4 f5⟩
 self:=fun _ _ _ _ _ st h=>wpAny_pyIter_tupleiter st h
theorem nU {P:n_} {w:y_} {K:c_} {tg:C_} (it:i_) (lo:Int) (n:Nat):ue P w K tg (Itr lo n) [it] it (fun i h=>IsRangeIter h it (lo + (i:Nat) * 1) ((n:Int) - (i:Nat)) 1) where
 mem:=by simp
 obj:=fun i h st b hb=>by
  have e:b=it:=by simpa using hb
  subst e
  exact ⟨_,st,fun v z=>by
   have z':Ll _=Data.cell v:=z
   cases z'⟩
 keep:=fun i h h' st k=>k it (by simp) _ st
 item:=by
  intro X hP hw hK hc i pins s σ H E I hf st hg
  subst hP hw hK
  obtain ⟨f0,f1,f2,f3,f4,f5⟩:=hf it (by simp)
  have W:=Walks.range (prog:=X.prog) (w:=X.w) (I.ok.hd hc) it lo 1 n
  refine W.item i s _ _ hg st fun v h' tk hv st' kk=>?_
  obtain ⟨t,rfl⟩:=hv
  have I1:Inv X pins σ H { s with heap:=h',toks:=tk }:=I.turned (fun b o hb e=>kk b o (by simpa using hb) e) f0 f1 f3 f4 f5
  refine ⟨_,rfl,kf (s:={ s with heap:=h',toks:=tk }) (n:="range_iterator") st' rfl rfl (by decide) ⟨.int (lo + i),H,I1,⟨t,?_⟩,⟨rfl,rfl⟩,st',fun b hb=>(hf b hb).1⟩⟩
  rw [Int.mul_one]
 done:=by
  intro X hP hw hK hc i pins s σ H E I hf st hg
  subst hP hw hK
  obtain ⟨f0,f1,f2,f3,f4,f5⟩:=hf it (by simp)
  exact wpAny_pyNext_range_end (I.ok.hd hc) st (by have:n≤i:=hg; omega) fun h' eb=>⟨rfl,I.turned (t':=s.toks) (fun b o hb e=>eb b o hb e) f0 f1 f3 f4 f5⟩
 self:=fun _ _ _ _ _ st h=>wpAny_pyIter_rangeiter st h
section
variable {X:Cx} {tg:C_}
theorem mI {pins:List (i_×Obj)} {σ:St} {H:Hp} {s:ge} {R:It→Hp→Prop} {E:d_→ge→Prop} {lo hi:Int} {t u v:Tok} {tk:Nat} (I:Inv X pins σ H s) (h1:-(2 ^ 62)≤lo) (h2:lo < 2 ^ 62) (h3:-(2 ^ 62)≤hi) (h4:hi < 2 ^ 62)
 (q:R (Itr lo (hi - lo).toNat) H):u_ (x_ X.prog X.w) X.A (pyIter (.ref s.heap.objs.size)) (PIE X pins σ tg R) E { s with heap:=s.heap.push { cls:=.type "range",data:=.fields #[.int lo t,.int hi u,.int 1 v] },toks:=tk }:=by
 refine wpAny_pyIter_range (IsRange.new ..) (small_one h1 h2 h3 h4) ?_
 have I1:Inv X pins σ H { s with heap:=s.heap.push { cls:=.type "range",data:=.fields #[.int lo t,.int hi u,.int 1 v] },toks:=tk }:=I.kept fun b o e=>k_ _ e
 refine ⟨(s.heap.push { cls:=.type "range",data:=.fields #[.int lo t,.int hi u,.int 1 v] }).objs.size,[(s.heap.push { cls:=.type "range",data:=.fields #[.int lo t,.int hi u,.int 1 v] }).objs.size],_,_,H,rfl,
  I1.kept (t':=tk) fun b o e=>k_ _ e,nU _ lo (hi - lo).toNat,?_,fun b hb=>?_,q⟩
 · have e1:lo + ((0:Nat):Int) * 1=lo:=by simp
   have e2:(((hi - lo).toNat:Nat):Int) - ((0:Nat):Int)=Builtin.Range.rangeSize lo hi 1:=by rw [rangeSize_one]; split <;> omega
   show IsRangeIter _ _ (lo + ((0:Nat):Int) * 1) ((((hi - lo).toNat:Nat):Int) - ((0:Nat):Int)) 1
   rw [e1,e2]
   exact z_ _ rfl
 · have e:b=(s.heap.push { cls:=.type "range",data:=.fields #[.int lo t,.int hi u,.int 1 v] }).objs.size:=by simpa using hb
   subst e
   exact I1.fpOk (m_ _) (I1.hok.fresh (m_ _))
def BR (ta:TA):TI:=fun σ H R=>ta σ H fun vs H1=>∃ j:Int,vs=[.int j]∧-(2 ^ 62)≤j∧j < 2 ^ 62∧R (Itr 0 j.toNat) H1
def BS (ta:TA):TI:=fun σ H R=>ta σ H fun vs H1=>∃ i j:Int,vs=[.int i,.int j]∧(-(2 ^ 62)≤i∧i < 2 ^ 62∧-(2 ^ 62)≤j∧j < 2 ^ 62)∧R (Itr i (j - i).toNat) H1
theorem o7 {a:C_} {ta:TA} {p pos:Pos} (hg:Gl X "range") (hm:X.mg "range"=ck) (ha:PA X [a] ta) (hs:h_ [a] X.env=[(f_,eval a X.env)]:=by rfl):PI X tg (.Call (.Name "range" p) [a] [] pos) (BR ta):=by
 intro pins s σ H R I h
 refine Call_ (et I hg hm boot_range (Gg (thn (ha pos pins s σ H _ I h) fun us s1 ⟨vs,H1,I1,r1,q1⟩=>?_) hs rfl))
 obtain ⟨j,e,q1,q2,q⟩:=q1
 subst e
 cases r1 with
 | cons r rr =>
  cases rr
  obtain ⟨t,rfl⟩:=r
  exact call_range_1 (mI I1 (by omega) (by omega) q1 q2 (by simpa using q))
theorem o8 {a b:C_} {ta:TA} {p pos:Pos} (hg:Gl X "range") (hm:X.mg "range"=ck) (ha:PA X [a,b] ta) (hs:h_ [a,b] X.env=[(f_,eval a X.env),(f_,eval b X.env)]:=by rfl) (hs2:h_ [b] X.env=[(f_,eval b X.env)]:=by rfl) :
 PI X tg (.Call (.Name "range" p) [a,b] [] pos) (BS ta):=by
 intro pins s σ H R I h
 refine Call_ (et I hg hm boot_range (Gg (thn (ha pos pins s σ H _ I h) fun us s1 ⟨vs,H1,I1,r1,q1⟩=>?_) (by rw [hs,hs2]) (by rw [hs2]; rfl)))
 obtain ⟨i,j,e,⟨q1,q2,q3,q4⟩,q⟩:=q1
 subst e
 cases r1 with
 | cons r rr =>
  cases rr with
  | cons r' rr =>
   cases rr
   obtain ⟨t,rfl⟩:=r
   obtain ⟨t',rfl⟩:=r'
   exact call_range_2 (mI I1 q1 q2 q3 q4 q)
def EL (wi:TI) (g:TG) (tb:TS):TS:=fun D σ H=>wi σ H fun J H1=>∃ W:Nat→Nat→St→Hp→Prop,(∃ m,W 0 m σ H1)∧∀ i m σ H,W i m σ H →
 (J.stop i H∧D.nx σ H)∨(J.go i H∧∃ N:St→Hp→Prop,(∀ σ' H',N σ' H'→∃ m',m' < m∧W (i + 1) m' σ' H')∧∀ x H',J.yld i H x H'→g x σ H' fun σ2 H2=>tb { D with nx:=N,ct:=N,bk:=D.nx } σ2 H2)
def cz (fp:List i_) (h:FF):List (i_×Obj):=fp.filterMap fun b=>(h.get? b).map fun o=>(b,o)
theorem bZ {fp:List i_} {h:FF} {b:i_} {o:Obj} (hb:b∈fp) (e:h.get? b=a_ o):(b,o)∈cz fp h:=JV.mpr ⟨b,hb,by rw [e]; rfl⟩
theorem io {fp:List i_} {h:FF} {p:i_×Obj} (hp:p∈cz fp h):p.1∈fp∧h.get? p.1=a_ p.2:=by
 obtain ⟨b,hb,e⟩:=JV.mp hp
 cases q:h.get? b with
 | none=>rw [q] at e; cases e
 | some o =>
  rw [q] at e
  have e':(b,o)=p:=F0 e
  subst e'
  exact ⟨hb,q⟩
theorem Inv.pinned {pins:List (i_×Obj)} {σ:St} {H:Hp} {s:ge} {fp:List i_} (I:Inv X pins σ H s) (hf:∀ b∈fp,mG X pins H b) (ho:∀ b∈fp,∃ o,s.heap.get? b=a_ o∧∀ v,o.data≠.cell v):Inv X (pins ++ cz fp s.heap) σ H s :=
 I.pins_of fun p hp=>(Ga.mp hp).elim (fun z=>I.pin p (s_ _ z)) fun z=>by
  obtain ⟨hb,e⟩:=io z
  obtain ⟨f0,f1,f2,_⟩:=hf p.1 hb
  obtain ⟨o,e',d⟩:=ho p.1 hb
  rw [e] at e'; cases e'
  exact ⟨e,f0,f1,f2,d⟩
theorem Inv.unpinned {pins pl:List (i_×Obj)} {σ:St} {H:Hp} {s:ge} (I:Inv X (pins ++ pl) σ H s):Inv X pins σ H s:=I.pins_of fun p hp=>I.pin p (s_ _ (FH _ hp))
theorem uf {iter:C_} {body:List GT} {wi:TI} {g:TG} {tb:TS} {pos:Pos} (hp:Lv (x_ X.prog X.w) X.A X.env X.xe) (hc:X.calm=e_) (hi:PI X tg iter wi) (hg:PG X tg g) (hb:PSs X body tb)
 (hs:∀ x,FR iter X.env x=pure x:=by intro _; rfl):PS X (.For tg iter body [] pos) (EL wi g tb):=by
 intro pins s σ H D I h
 refine wpAny_For (thn (hi pins s σ H _ I h) fun v s1 h1=>thn h1 fun itv s2 h2=>?_) hs
 obtain ⟨it,fp,tn,J,H2,e,I2,T,st2,f2,W,⟨m0,w0⟩,turn⟩:=h2
 subst e
 have stat:∀ {H':Hp},(∀ b∈fp,H' b=ck)→∀ b∈fp,mG X pins H' b:=fun hn b hb=>⟨hn b hb,(f2 b hb).2⟩
 refine codeAny_forLoop_any (fun n s'=>∃ i σ' H',Inv X pins σ' H' s'∧tn i s'.heap∧(∀ b∈fp,H' b=ck)∧W i n σ' H') ?_ m0 ⟨0,σ,H2,I2,st2,fun b hb=>(f2 b hb).1,w0⟩
 rintro n s3 ⟨i,σ3,H3,I3,st3,fr3,w3⟩
 rcases turn i n σ3 H3 w3 with ⟨stop,qn⟩ | ⟨go,N,hN,step⟩
 · refine Ix hp (thn (T.done X rfl rfl rfl hc i pins s3 σ3 H3 X.xe I3 (stat fr3) st3 stop) fun r s4 ⟨hr,I4⟩=>?_)
   subst hr
   exact K0 ⟨σ3,H3,I4,qn⟩
 · refine Ix hp (thn (T.item X rfl rfl rfl hc i pins s3 σ3 H3 X.xe I3 (stat fr3) st3 go) fun r s4 ⟨u,hr,h4⟩=>?_)
   subst hr
   refine Ix hp (thn h4 fun _ s5 ⟨x,H5,I5,r5,y5,st5,fr5⟩=>?_)
   have I5':=I5.pinned (stat fr5) (T.obj _ _ st5)
   refine Ix hp (thn (hg _ s5 σ3 H5 x u _ I5' r5 (step x H5 y5)) fun _ s6 ⟨σ6,H6,I6,q6⟩=>?_)
   refine Ix hp (thn (hb _ s6 σ6 H6 _ I6 q6) fun f s7 q7=>?_)
   have again:∀ {σ7:St} {H7:Hp},Inv X (pins ++ cz fp s5.heap) σ7 H7 s7→N σ7 H7→∃ m,m < n∧∃ i σ' H',Inv X pins σ' H' s7∧tn i s7.heap∧(∀ b∈fp,H' b=ck)∧W i m σ' H':=fun {σ7 H7} I7 n7=>by
    obtain ⟨m',hm,w7⟩:=hN σ7 H7 n7
    refine ⟨m',hm,i + 1,σ7,H7,I7.unpinned,T.keep _ _ _ st5 fun b hb o e=>(I7.pin (b,o) (s_ _ (s_ _ (bZ hb e)))).1,fun b hb=>?_,w7⟩
    obtain ⟨o,e,d⟩:=T.obj _ _ st5 b hb
    exact (I7.pin (b,o) (s_ _ (s_ _ (bZ hb e)))).2.1
   cases f with
   | next=>obtain ⟨σ7,H7,I7,n7⟩:=q7; exact again I7 n7
   | cont=>obtain ⟨σ7,H7,I7,n7⟩:=q7; exact again I7 n7
   | brk=>obtain ⟨σ7,H7,I7,q7⟩:=q7; exact ⟨σ7,H7,I7.unpinned,q7⟩
   | ret v=>obtain ⟨x7,σ7,H7,I7,r7,q7⟩:=q7; exact ⟨x7,σ7,H7,I7.unpinned,r7,q7⟩
end
abbrev R2:=V→V→Hp→VK→Prop
def OpR (X:Cx) (f:d_→d_→Sem d_) (r:R2):Prop :=
 ∀ (pins:List (i_×Obj)) (s:ge) (σ:St) (H:Hp) (x y:V) (v u:d_) (Q:VK),Inv X pins σ H s→RelV x v→RelV y u→r x y H Q →
  u_ (x_ X.prog X.w) X.A (f v u) (EP X pins σ Q) X.xe s
def UnR (X:Cx) (f:d_→Sem d_) (r:V→Hp→VK→Prop):Prop :=
 ∀ (pins:List (i_×Obj)) (s:ge) (σ:St) (H:Hp) (x:V) (v:d_) (Q:VK),Inv X pins σ H s→RelV x v→r x H Q →
  u_ (x_ X.prog X.w) X.A (f v) (EP X pins σ Q) X.xe s
def CallR (X:Cx) (f:d_) (r:List V→Hp→VK→Prop):Prop :=
 ∀ (pins:List (i_×Obj)) (s:ge) (σ:St) (H:Hp) (xs:List V) (us:List d_) (Q:VK),Inv X pins σ H s→Vals xs us→r xs H Q →
  u_ (x_ X.prog X.w) X.A (call f us) (EP X pins σ Q) X.xe s
def tOp (r:R2) (ta tb:TE):TE:=fun σ H Q=>ta σ H fun x H1=>tb σ H1 fun y H2=>r x y H2 Q
def tUn (r:V→Hp→VK→Prop) (ta:TE):TE:=fun σ H Q=>ta σ H fun x H1=>r x H1 Q
def rI (C:Int→Int→Prop) (g:Int→Int→V):R2:=fun x y H Q=>∃ i j,x=.int i∧y=.int j∧C i j∧Q (g i j) H
def rI0 (g:Int→Int→V):R2:=fun x y H Q=>∃ i j,x=.int i∧y=.int j∧Q (g i j) H
def rU (g:Int→V):V→Hp→VK→Prop:=fun x H Q=>∃ i,x=.int i∧Q (g i) H
section
variable {X:Cx} {a b c:C_} {ta tb tc:TE} {pos:Pos}
theorem BU (ha:PE X a ta) (hb:PE X b tb) {pins:List (i_×Obj)} {s:ge} {σ:St} {H:Hp} {R:V→V→Hp→Prop} (I:Inv X pins σ H s)
 (h:ta σ H fun x H1=>tb σ H1 fun y H2=>R x y H2) {Q:d_→ge→Prop} {f:d_→d_→Sem d_}
 (hf:∀ v u s2 x y H2,Inv X pins σ H2 s2→RelV x v→RelV y u→R x y H2→u_ (x_ X.prog X.w) X.A (f v u) Q X.xe s2) :
 u_ (x_ X.prog X.w) X.A (eval a X.env) (fun v s₁=>u_ (x_ X.prog X.w) X.A (eval b X.env) (fun u s₂=>u_ (x_ X.prog X.w) X.A (f v u) Q X.xe s₂) X.xe s₁) X.xe s:=by
 refine thn (ha pins s σ H _ I h) fun v s1 ⟨x,H1,I1,r1,q1⟩=>?_
 refine thn (hb pins s1 σ H1 _ I1 q1) fun u s2 ⟨y,H2,I2,r2,q2⟩=>?_
 exact hf v u s2 x y H2 I2 r1 r2 q2
theorem BV {op:Operator} {r:R2} (ho:OpR X (GV op) r) (ha:PE X a ta) (hb:PE X b tb):PE X (.BinOp a op b pos) (tOp r ta tb):=by
 intro pins s σ H Q I h
 exact wpAny_BinOp (BU ha hb I h fun v u s2 x y H2 I2 rx ry q=>ho pins s2 σ H2 x y v u Q I2 rx ry q)
theorem BW {op:UnaryOp} {r:V→Hp→VK→Prop} (ho:UnR X (unaryOp op) r) (ha:PE X a ta):PE X (.UnaryOp op a pos) (tUn r ta):=by
 intro pins s σ H Q I h
 exact UnaryOp_ (thn (ha pins s σ H _ I h) fun v s1 ⟨x,H1,I1,r1,q1⟩=>ho pins s1 σ H1 x v Q I1 r1 q1)
theorem opI {f:d_→d_→Sem d_} {C:Int→Int→Prop} {g:Int→Int→Int}
 (rule:∀ (i j:Int) (t u:Tok) (s:ge) (Q:d_→ge→Prop) (E:d_→ge→Prop),C i j→Q (.int (g i j) s.toks) { s with toks:=s.toks + 1 }→u_ (x_ X.prog X.w) X.A (f (.int i t) (.int j u)) Q E s) :
 OpR X f (rI C fun i j=>.int (g i j)):=by
 intro pins s σ H x y v u Q I rx ry h
 obtain ⟨i,j,rfl,rfl,hc,q⟩:=h
 obtain ⟨t,rfl⟩:=rx
 obtain ⟨t',rfl⟩:=ry
 exact rule i j t t' s _ _ hc ⟨.int (g i j),H,I.tok _,⟨_,rfl⟩,q⟩
theorem DT {f:d_→d_→Sem d_} {g:Int→Int→Int}
 (rule:∀ (i j:Int) (t u:Tok) (s:ge) (Q:d_→ge→Prop) (E:d_→ge→Prop),Q (.int (g i j) s.toks) { s with toks:=s.toks + 1 }→u_ (x_ X.prog X.w) X.A (f (.int i t) (.int j u)) Q E s) :
 OpR X f (rI0 fun i j=>.int (g i j)):=by
 intro pins s σ H x y v u Q I rx ry h
 obtain ⟨i,j,rfl,rfl,q⟩:=h
 obtain ⟨t,rfl⟩:=rx
 obtain ⟨t',rfl⟩:=ry
 exact rule i j t t' s _ _ ⟨.int (g i j),H,I.tok _,⟨_,rfl⟩,q⟩
theorem BX {f:d_→d_→Sem d_} {g:Int→Int→Bool}
 (rule:∀ (i j:Int) (t u:Tok) (s:ge) (Q:d_→ge→Prop) (E:d_→ge→Prop),Q (.bool (g i j)) s→u_ (x_ X.prog X.w) X.A (f (.int i t) (.int j u)) Q E s) :
 OpR X f (rI0 fun i j=>.bl (g i j)):=by
 intro pins s σ H x y v u Q I rx ry h
 obtain ⟨i,j,rfl,rfl,q⟩:=h
 obtain ⟨t,rfl⟩:=rx
 obtain ⟨t',rfl⟩:=ry
 exact rule i j t t' s _ _ ⟨.bl (g i j),H,I,rfl,q⟩
def DU (i j:Int):Prop:=0 < j∧j < 1073741824
def CMul (i j:Int):Prop:=(-(2 ^ 64) < i∧i < 2 ^ 64)∨(-(2 ^ 64) < j∧j < 2 ^ 64)
theorem CMul.ok {i j:Int} (h:CMul i j):IntMulOk i j:=by
 rcases h with ⟨h1,h2⟩ | ⟨h1,h2⟩
 · exact .of_left (intBits_le_64 h1 h2)
 · exact .of_right (intBits_le_64 h1 h2)
theorem op_add:OpR X (GV .Add) (rI0 fun i j=>.int (i + j)):=DT fun _ _ _ _ _ _ _ q=>add_int q
theorem yh:OpR X (GV .Sub) (rI0 fun i j=>.int (i - j)):=DT fun _ _ _ _ _ _ _ q=>sub_int q
theorem ug:OpR X (GV .Mult) (rI CMul fun i j=>.int (i * j)):=opI fun _ _ _ _ _ _ _ hc q=>mul_int q hc.ok
theorem uW:OpR X (GV .FloorDiv) (rI DU fun i j=>.int (i / j)):=opI fun i j _ _ _ _ _ hc q=>by
 have h1:(0:Int) < j:=hc.1
 have h2:j < 1073741824:=hc.2
 exact floordiv_int (by omega) (by rw [Int.fdiv_eq_ediv_of_nonneg i (by omega)]; exact q) (.inl (PyProof.noPylong_small (by omega)))
theorem yi:OpR X (GV .Mod) (rI (fun _ j=>0 < j) fun i j=>.int (i % j)):=opI fun i j _ _ _ _ _ hc q=>by
 have h1:(0:Int) < j:=hc
 exact mod_int' (by omega) (by rw [Int.fmod_eq_emod_of_nonneg i (by omega)]; exact q)
theorem unI {f:d_→Sem d_} {g:Int→Int}
 (rule:∀ (i:Int) (t:Tok) (s:ge) (Q:d_→ge→Prop) (E:d_→ge→Prop),Q (.int (g i) s.toks) { s with toks:=s.toks + 1 }→u_ (x_ X.prog X.w) X.A (f (.int i t)) Q E s) :
 UnR X f (rU fun i=>.int (g i)):=by
 intro pins s σ H x v Q I rx h
 obtain ⟨i,rfl,q⟩:=h
 obtain ⟨t,rfl⟩:=rx
 exact rule i t s _ _ ⟨.int (g i),H,I.tok _,⟨_,rfl⟩,q⟩
theorem yj:UnR X (unaryOp .USub) (rU fun i=>.int (-i)):=unI fun _ _ _ _ _ q=>neg_int q
end
def BY:V→V→Bool
 | .non,.non=>e_ | .non,.int _=>e_ | .int _,.non=>e_ | .non,.bl _=>e_ | .bl _,.non=>e_ | .non,.str _=>e_ | .str _,.non=>e_
 | .int _,.int _=>e_ | .bl _,.bl _=>e_ | .str _,.str _=>e_ | .byt _,.byt _=>e_
 | .int _,.str _=>e_ | .str _,.int _=>e_ | .bl _,.str _=>e_ | .str _,.bl _=>e_
 | _,_=>f_
def rEq:R2:=fun x y H Q=>BY x y=e_∧Q (.bl (t_ (x=y))) H
def rNe:R2:=fun x y H Q=>BY x y=e_∧Q (.bl (!t_ (x=y))) H
theorem lH {i j:Int}:t_ (V.int i=V.int j)=(i == j):=by
 rw [Gp]
 simp
theorem o9 {i j:Bool}:t_ (V.bl i=V.bl j)=(i == j):=by
 rw [Gp]
 simp
theorem lI {i j:Str}:t_ (V.str i=V.str j)=(i == j):=by
 rw [Gp]
 simp
theorem pb {i j:Array UInt8}:t_ (V.byt i=V.byt j)=(i.toList == j.toList):=by
 rw [Gp]
 cases i
 cases j
 simp
section
variable {X:Cx} {a b c:C_} {ta tb tc:TE} {pos:Pos}
theorem aP {pins:List (i_×Obj)} {σ:St} {H:Hp} {s:ge} {Q:VK} {k k':Bool} (I:Inv X pins σ H s) (q:Q (.bl k) H) (e:k=k'):EP X pins σ Q (.bool k') s:=by
 subst e
 exact ⟨.bl k,H,I,rfl,q⟩
theorem op_eq:OpR X (F9 .Eq) rEq:=by
 intro pins s σ H x y v u Q I rx ry h
 obtain ⟨hs,q⟩:=h
 cases x with
 | non =>
  cases rx
  cases y with
  | non=>cases ry; exact PySem.EqNone.eq_none_none (aP I q (by simp))
  | bl j=>cases ry; exact PySem.EqNone.eq_none_bool (aP I q (by simp))
  | int j=>obtain ⟨t',rfl⟩:=ry; exact PySem.EqNone.eq_none_int (aP I q (by simp))
  | str j=>obtain ⟨t',rfl⟩:=ry; exact PySem.EqNone.eq_none_str (aP I q (by simp))
  | _=>exact absurd (show f_=e_ from hs) q_
 | bl i =>
  cases rx
  cases y with
  | non=>cases ry; exact PySem.EqNone.eq_bool_none (aP I q (by simp))
  | bl j=>cases ry; exact eq_bool (aP I q o9)
  | str j=>obtain ⟨t',rfl⟩:=ry; exact PySem.EqMixed.eq_bool_str (aP I q (by simp))
  | _=>exact absurd (show f_=e_ from hs) q_
 | int i =>
  obtain ⟨t,rfl⟩:=rx
  cases y with
  | non=>cases ry; exact PySem.EqNone.eq_int_none (aP I q (by simp))
  | int j=>obtain ⟨t',rfl⟩:=ry; exact eq_int (aP I q lH)
  | str j=>obtain ⟨t',rfl⟩:=ry; exact PySem.EqMixed.eq_int_str (aP I q (by simp))
  | _=>exact absurd (show f_=e_ from hs) q_
 | str i =>
  obtain ⟨t,rfl⟩:=rx
  cases y with
  | non=>cases ry; exact PySem.EqNone.eq_str_none (aP I q (by simp))
  | bl j=>cases ry; exact PySem.EqMixed.eq_str_bool (aP I q (by simp))
  | int j=>obtain ⟨t',rfl⟩:=ry; exact PySem.EqMixed.eq_str_int (aP I q (by simp))
  | str j=>obtain ⟨t',rfl⟩:=ry; exact eq_str (aP I q lI)
  | _=>exact absurd (show f_=e_ from hs) q_
 | byt i =>
  obtain ⟨t,rfl⟩:=rx
  cases y with
  | byt j=>obtain ⟨t',rfl⟩:=ry; exact PySem.W.eq_bytes (aP I q pb)
  | _=>exact absurd (show f_=e_ from hs) q_
 | _=>cases y <;> exact absurd (show f_=e_ from hs) q_
theorem op_ne:OpR X (F9 .NotEq) rNe:=by
 intro pins s σ H x y v u Q I rx ry h
 obtain ⟨hs,q⟩:=h
 cases x with
 | non =>
  cases rx
  cases y with
  | non=>cases ry; exact PySem.EqNone.ne_none_none (aP I q (by simp))
  | bl j=>cases ry; exact PySem.EqNone.ne_none_bool (aP I q (by simp))
  | int j=>obtain ⟨t',rfl⟩:=ry; exact PySem.EqNone.ne_none_int (aP I q (by simp))
  | str j=>obtain ⟨t',rfl⟩:=ry; exact PySem.EqNone.ne_none_str (aP I q (by simp))
  | _=>exact absurd (show f_=e_ from hs) q_
 | bl i =>
  cases rx
  cases y with
  | non=>cases ry; exact PySem.EqNone.ne_bool_none (aP I q (by simp))
  | bl j=>cases ry; exact ne_bool (aP I q (congrArg not o9))
  | str j=>obtain ⟨t',rfl⟩:=ry; exact PySem.EqMixed.ne_bool_str (aP I q (by simp))
  | _=>exact absurd (show f_=e_ from hs) q_
 | int i =>
  obtain ⟨t,rfl⟩:=rx
  cases y with
  | non=>cases ry; exact PySem.EqNone.ne_int_none (aP I q (by simp))
  | int j=>obtain ⟨t',rfl⟩:=ry; exact ne_int (aP I q (congrArg not lH))
  | str j=>obtain ⟨t',rfl⟩:=ry; exact PySem.EqMixed.ne_int_str (aP I q (by simp))
  | _=>exact absurd (show f_=e_ from hs) q_
 | str i =>
  obtain ⟨t,rfl⟩:=rx
  cases y with
  | non=>cases ry; exact PySem.EqNone.ne_str_none (aP I q (by simp))
  | bl j=>cases ry; exact PySem.EqMixed.ne_str_bool (aP I q (by simp))
  | int j=>obtain ⟨t',rfl⟩:=ry; exact PySem.EqMixed.ne_str_int (aP I q (by simp))
  | str j=>obtain ⟨t',rfl⟩:=ry; exact ne_str (aP I q (congrArg not lI))
  | _=>exact absurd (show f_=e_ from hs) q_
 | byt i =>
  obtain ⟨t,rfl⟩:=rx
  cases y with
  | byt j=>obtain ⟨t',rfl⟩:=ry; exact PySem.W.ne_bytes (aP I q (congrArg not pb))
  | _=>exact absurd (show f_=e_ from hs) q_
 | _=>cases y <;> exact absurd (show f_=e_ from hs) q_
theorem op_lt:OpR X (F9 .Lt) (rI0 fun i j=>.bl (t_ (i < j))):=BX fun _ _ _ _ _ _ _ q=>lt_int q
theorem op_le:OpR X (F9 .LtE) (rI0 fun i j=>.bl (t_ (i≤j))):=BX fun _ _ _ _ _ _ _ q=>le_int q
theorem BZ:OpR X (F9 .Gt) (rI0 fun i j=>.bl (t_ (j < i))):=BX fun _ _ _ _ _ _ _ q=>gt_int q
theorem pe:OpR X (F9 .Lt) (fun x y H Q=>∃ i j,x=.str i∧y=.str j∧Q (.bl (t_ (i.cps.toList < j.cps.toList))) H):=by
 intro pins s σ H x y v u Q I rx ry h
 obtain ⟨i,j,rfl,rfl,q⟩:=h
 obtain ⟨t,rfl⟩:=rx
 obtain ⟨t',rfl⟩:=ry
 exact lt_str (aP I q rfl)
theorem op_in_str:OpR X (F9 .In) (fun x y H Q=>∃ i j,x=.str i∧y=.str j∧Q (.bl (!(FQ j i 0 j.length 1).isEmpty)) H):=by
 intro pins s σ H x y v u Q I rx ry h
 obtain ⟨i,j,rfl,rfl,q⟩:=h
 obtain ⟨t,rfl⟩:=rx
 obtain ⟨t',rfl⟩:=ry
 exact in_str (aP I q rfl)
theorem uh:OpR X (F9 .Is) (fun x y H Q=>y=.non∧Q (.bl (t_ (x=.non))) H):=by
 intro pins s σ H x y v u Q I rx ry h
 obtain ⟨rfl,q⟩:=h
 cases ry
 refine is_none_gen (aP I q ?_)
 cases x <;> first
  | (cases rx; rfl)
  | (obtain ⟨t,rfl⟩:=rx; rfl)
theorem pf:OpR X (F9 .IsNot) (fun x y H Q=>y=.non∧Q (.bl (!t_ (x=.non))) H):=by
 intro pins s σ H x y v u Q I rx ry h
 obtain ⟨rfl,q⟩:=h
 cases ry
 refine isnot_none_gen (aP I q ?_)
 cases x <;> first
  | (cases rx; rfl)
  | (obtain ⟨t,rfl⟩:=rx; rfl)
theorem OpR.or {f:d_→d_→Sem d_} {r r':R2} (h:OpR X f r) (h':OpR X f r'):OpR X f (fun x y H Q=>r x y H Q∨r' x y H Q):=by
 intro pins s σ H x y v u Q I rx ry q
 rcases q with q | q
 · exact h pins s σ H x y v u Q I rx ry q
 · exact h' pins s σ H x y v u Q I rx ry q
theorem DV (b:C_) {op:CmpOp} (h:op≠.In:=by decide) (h2:op≠.NotIn:=by decide):FL op b=f_:=by
 have e1:(op == CmpOp.In)=f_:=by cases op <;> first | rfl | exact absurd rfl h
 have e2:(op == CmpOp.NotIn)=f_:=by cases op <;> first | rfl | exact absurd rfl h2
 cases b <;> simp [FL,e1,e2]
theorem uX {op:CmpOp} {r:R2} (ho:OpR X (F9 op) r) (ha:PE X a ta) (hb:PE X b tb) (hm:FL op b=f_):PE X (.Compare a [op] [b] pos) (tOp r ta tb):=by
 intro pins s σ H Q I h
 exact wpAny_Compare1 (BU ha hb I h fun v u s2 x y H2 I2 rx ry q=>ho pins s2 σ H2 x y v u Q I2 rx ry q) hm
def B0 (t:TE):TT:=fun σ H Q=>t σ H fun x H'=>∃ k,x=.bl k∧Q k H'
theorem uY {op:CmpOp} {r:R2} (ho:OpR X (F9 op) r) (ha:PE X a ta) (hb:PE X b tb) (hm:FL op b=f_):PT X (.Compare a [op] [b] pos) (B0 (tOp r ta tb)):=by
 intro pins s σ H Q I h
 refine wpAny_isTrue_Compare1 (thn (ha pins s σ H _ I h) fun v s1 ⟨x,H1,I1,r1,q1⟩=>thn (hb pins s1 σ H1 _ I1 q1) fun u s2 ⟨y,H2,I2,r2,q2⟩ =>
  thn (ho pins s2 σ H2 x y v u _ I2 r1 r2 q2) fun c s3 ⟨z,H3,I3,r3,k,e,q3⟩=>?_) hm
 subst e
 cases r3
 exact Hn ⟨H3,I3,q3⟩
theorem mJ:(sizeLine:Nat) < 2 ^ 63:=by rw [Jl]; decide
theorem op_add_str:OpR X (GV .Add) (fun x y H Q=>∃ i j,x=.str i∧y=.str j∧i.length + j.length≤sizeLine∧Q (.str (i ++ j)) H):=by
 intro pins s σ H x y v u Q I rx ry h
 obtain ⟨i,j,rfl,rfl,hz,q⟩:=h
 obtain ⟨t,rfl⟩:=rx
 obtain ⟨t',rfl⟩:=ry
 exact add_str (fun t' tk=>⟨.str (i ++ j),H,I.tok _,⟨_,rfl⟩,q⟩) hz
theorem eC {x:V} {us:List d_} (r:Vals [x] us):∃ u,us=[u]∧RelV x u:=by
 cases r with
 | cons r1 r2=>cases r2; exact ⟨_,rfl,r1⟩
theorem uZ {x y:V} {us:List d_} (r:Vals [x,y] us):∃ u w',us=[u,w']∧RelV x u∧RelV y w':=by
 cases r with
 | cons r1 r2 =>
  cases r2 with
  | cons r3 r4=>cases r4; exact ⟨_,_,rfl,r1,r3⟩
theorem ph (hc:X.calm=e_):CallR X (.builtin "max") (fun xs H Q=>∃ i j,xs=[.int i,.int j]∧Q (.int (if j > i then j else i)) H):=by
 intro pins s σ H xs us Q I r h
 obtain ⟨i,j,rfl,q⟩:=h
 obtain ⟨u,w',rfl,⟨t,rfl⟩,⟨t',rfl⟩⟩:=uZ r
 refine max_two_ints (I.ok.hd hc) fun h' tk k=>⟨_,H,I.kept k,?_,q⟩
 by_cases hj:j > i
 · rw [if_pos hj,if_pos hj]; exact ⟨_,rfl⟩
 · rw [if_neg hj,if_neg hj]; exact ⟨_,rfl⟩
def EM (K:c_) (x:V) (H:Hp) (n:Nat):Prop :=
 match x with
 | .str y=>y.length≤sizeLine∧n=y.length
 | .byt y=>y.size≤sizeLine∧n=y.size
 | .ref p=>(∃ xs,SqL K H p xs∧n=xs.length)∨∃ xs,SqT K H p xs∧n=xs.length
 | _=>False
theorem rS:CallR X (.builtin "len") (fun xs H Q=>∃ x n,xs=[x]∧EM X.K x H n∧Q (.int n) H):=by
 intro pins s σ H xs us Q I r h
 obtain ⟨x,n,rfl,e,q⟩:=h
 obtain ⟨u,rfl,rx⟩:=eC r
 have hl:=mJ
 have hs:sizeLine=16777216:=Jl
 cases x with
 | str y =>
  obtain ⟨t,rfl⟩:=rx
  obtain ⟨hy,e'⟩:y.length≤sizeLine∧n=y.length:=e
  subst e'
  exact len_str (by omega) ⟨.int _,H,I.tok _,⟨_,rfl⟩,q⟩
 | byt y =>
  obtain ⟨t,rfl⟩:=rx
  obtain ⟨hy,e'⟩:y.size≤sizeLine∧n=y.size:=e
  subst e'
  exact PySem.W.len_bytes (by omega) ⟨.int _,H,I.tok _,⟨_,rfl⟩,q⟩
 | ref p =>
  cases rx
  have e':(∃ xs,SqL X.K H p xs∧n=xs.length)∨∃ xs,SqT X.K H p xs∧n=xs.length:=e
  rcases e' with ⟨xs,hx,e'⟩ | ⟨xs,hx,e'⟩
  · subst e'
    obtain ⟨its,r',pl,hz⟩:=I.list hx
    have hlen:=r'.length
    exact Calls.call_len_list pl.isList (by simp only [uk]; omega) ⟨.int xs.length,H,I.tok _,⟨_,by simp only [uk]; rw [hlen]⟩,q⟩
  · subst e'
    obtain ⟨its,r',pl,hz⟩:=I.tuple hx
    have hlen:=r'.length
    exact len_tuple pl (by simp only [uk]; omega) ⟨.int xs.length,H,I.tok _,⟨_,by simp only [uk]; rw [hlen]⟩,q⟩
 | _=>exact (show False from e).elim
end
structure ObjM (h:FF) (x dx C:i_) (mA:Str→Option d_):Prop where
 obj:h.get? x=a_ (Hk C dx)
 ns:h.Ns1 dx mA
 ne:dx≠x
theorem pj {h:FF} {dx:i_} {mA:Str→Option d_} (n:h.Ns1 dx mA):∃ od,h.get? dx=a_ od∧∀ name,Lg name od=a_ (mA name):=by
 obtain ⟨o,es,ep,ho,hd,hk,_,hm⟩:=n
 refine ⟨o,ho,fun name=>?_⟩
 have e:=hm name
 unfold nsFind findBy at e
 rw [← Array.find?_toList] at e
 unfold Lg
 rw [hd]
 dsimp only
 split
 · rename_i y q
   rw [q] at e
   exact congrArg a_ e
 · rename_i q
   rw [q] at e
   have a:es.toList.any (·.refKey)=f_:=by
    rw [List.any_eq_false]
    intro y hy
    obtain ⟨z,t,hkey⟩:=hk y (Ht.mp hy)
    simp [DictEntry.refKey,hkey]
   have a':¬ es.toList.any (·.refKey)=e_:=by rw [a]; exact q_
   rw [if_neg a']
   exact congrArg a_ e
theorem ObjM.look {h:FF} {x dx C:i_} {mA:Str→Option d_} (I:ObjM h x dx C mA):∃ od,PySem.W.InstAt h x (Hk C dx) C (a_ od)∧∀ name,Lg name od=a_ (mA name) :=
 let ⟨od,ho,hl⟩:=pj I.ns
 ⟨od,⟨I.obj,rfl,rfl,ho⟩,hl⟩
section
variable {prog:n_} {w:y_} {A:w_} {E:d_→ge→Prop} {s:ge} {K:c_} {x dx C f:i_} {mA:Str→Option d_} {name:Str} {v:d_}
end
theorem RelO.none_of {o:Option d_} (r:RelO ck o):o=ck:=by
 cases o with
 | none=>rfl
 | some u=>exact (show False from r).elim
section
variable {P:n_} {w:y_} {H H':Hp} {h h':FF} {a C dx:i_} {fs fs':List (Str×V)}
theorem u0 (hok:HOk P w H h) (e:H a=a_ (.ins C dx fs)):∃ mA,ObjM h a dx C mA∧(∀ f,RelO (fs.lookup f) (mA f))∧PySem.Within mA (fs.map (·.1))∧fs.length≤1000∧H dx=a_ (.own a):=by
 obtain ⟨d,z,ne,ob,mA,n,r,q⟩:=(show ObjOk P w H h a (.ins C dx fs) from hok a _ e)
 exact ⟨mA,⟨ob,n,ne⟩,r,q,z,d⟩
end
structure Cls (K:c_) (C:i_):Prop where
 pg:Mn K C M0=e_
 hd:PySem.W.hasDictIn K C=e_
 po:PySem.W.plainOver K C=e_
 sa:IQ K (.ref C) "__setattr__"=a_ (a_ (.builtin "object.__setattr__"))
theorem Cls.get {K:c_} {C:i_} (c:Cls K C) (f:Str):Mn K C f=e_:=c.pg
structure Con (K:c_) (C:i_) (f:Str) (v:V) (u:d_):Prop where
 at_:IQ K (.ref C) f=a_ (a_ u)
 rel:RelV v u
 get:L6 K u "__get__"=a_ ck
 cp:PySem.W.copiedNames.contains f=f_
structure Fv (K:c_) (C:i_) (m:Str) (f:i_):Prop where
 at_:IQ K (.ref C) m=a_ (a_ (.ref f))
 fn:M3 K (.ref f)=e_
 kp:F4 K (.ref f)=e_
section
variable {X:Cx} {pins:List (i_×Obj)} {σ:St} {H:Hp} {s:ge} {a C dx:i_} {fs:List (Str×V)} {f:Str} {v:V} {A:w_} {E:d_→ge→Prop}
theorem Inv.made (I:Inv X pins σ H s):Inv X pins σ (upd (upd H s.heap.objs.size (.own (s.heap.objs.size + 1))) (s.heap.objs.size + 1) (.ins C s.heap.objs.size []))
 { s with heap:=(s.heap.push GP).push (Hk C s.heap.objs.size) }:=by
 have e1:(s.heap.push GP).get? s.heap.objs.size=a_ GP:=z_ s.heap rfl
 have e2:((s.heap.push GP).push (Hk C s.heap.objs.size)).get? (s.heap.objs.size + 1)=a_ (Hk C s.heap.objs.size):=by
  have:=z_ (s.heap.push GP) (o:=Hk C s.heap.objs.size) rfl
  rwa [G6] at this
 have e3:(s.heap.push GP).Ns s.heap.objs.size (fun _=>ck):=⟨GP,#[],_,e1,rfl,(fun e he=>absurd he (by simp)),fun _=>rfl⟩
 have I1:=I.laid (a:=s.heap.objs.size) (o:=.own (s.heap.objs.size + 1)) (h':=s.heap.push GP) (t':=s.toks) (fun b u q=>k_ _ q) (m_ _) ⟨_,e1⟩
 refine I1.laid (a:=s.heap.objs.size + 1) (o:=.ins C s.heap.objs.size []) (t':=s.toks) (fun b u q=>k_ _ q) (Im (G6 _ _)) ?_
 have ne:s.heap.objs.size≠s.heap.objs.size + 1:=FM (Ky _)
 refine ⟨by rw [au ne,ao],Gd _,ne,e2,fun _=>ck,(Heap.Ns1.of_empty e3).at fun o q=>k_ _ q,fun _=>JD,fun y hy=>absurd rfl hy⟩
end
section
variable {X:Cx} {o e value:C_} {f:Str} {pos pos' tpos:Pos} {ta tv:TE}
end
section
variable {X:Cx} {pins:List (i_×Obj)} {σ:St} {H:Hp} {s:ge} {A:w_} {E:d_→ge→Prop} {Q:d_→ge→Prop} {c:d_} {b:Bool}
inductive mK (K:c_) (H:Hp):V→d_→Prop where
 | non:mK K H .non (.type "NoneType")
 | bl (x:Bool):mK K H (.bl x) (.type "bool")
 | int (i:Int):mK K H (.int i) (.type "int")
 | str (x:Str):mK K H (.str x) (.type "str")
 | flt (x:UInt64):mK K H (.flt x) (.type "float")
 | lst {a:i_} {xs:List V} (e:H a=a_ (.lst xs)):mK K H (.ref a) (.type "list")
 | frz {a:i_} {o:Obj} {xs:List V} (e:H a=a_ (.frz o (.lst xs))):mK K H (.ref a) (.type "list")
 | tup {a:i_} {xs:List V} (e:H a=a_ (.tup xs)):mK K H (.ref a) (.type "tuple")
 | dK {a:i_} {kvs:List (Key×V)} (e:H a=a_ (.dK kvs)):mK K H (.ref a) (.type "dict")
 | dT {a:i_} {kvs:List (List Key×V)} (e:H a=a_ (.dT kvs)):mK K H (.ref a) (.type "dict")
 | ins {a C dx:i_} {fs:List (Str×V)} (e:H a=a_ (.ins C dx fs)) (cl:Cls K C) (ha:IQ K (.ref C) "__class__"=a_ (a_ (.builtin "object.__class__")))
  (hn:L6 K (.builtin "object.__class__") "__get__"=a_ (a_ (.builtin "getset_descriptor.__get__"))) (htk:PySem.W.takesIn K (.builtin "object.__class__")=a_ e_)
  (hm:PySem.W.mroIn K C (.type "object")=a_ e_):mK K H (.ref a) (.ref C)
theorem pk {x:V} {u t:d_} (I:Inv X pins σ H s) (rx:RelV x u) (ty:mK X.K H x t) (e:HE X.K t c=a_ b) (h:∀ tk,Q (.bool b) { s with toks:=tk }) :
 u_ (x_ X.prog X.w) A (call (.builtin "isinstance") [u,c]) Q E s:=by
 cases ty with
 | non=>cases (show u=FX from rx); exact Gv PySem.W.kitx_none I.kIn JD e (fun z=>nomatch z) h
 | bl y=>cases (show u=Gk y from rx); exact Gv PySem.W.kitx_bool I.kIn JD e (fun z=>nomatch z) h
 | int i=>obtain ⟨t,q⟩:=(show ∃ t,u=Mp i t from rx); cases q; exact Gv PySem.W.kitx_int I.kIn JD e (fun z=>nomatch z) h
 | str y=>obtain ⟨t,q⟩:=(show ∃ t,u=Ii y t from rx); cases q; exact Gv PySem.W.kitx_str I.kIn JD e (fun z=>nomatch z) h
 | flt y=>obtain ⟨t,q⟩:=(show ∃ t,u=Value.float y t from rx); cases q; exact Gv PySem.W.kitx_float I.kIn JD e (fun z=>nomatch z) h
 | @lst a xs ea =>
  cases (show u=A_ a from rx)
  obtain ⟨_,_,n,_,h1⟩:=(show ObjOk X.prog X.w H s.heap a (.lst xs) from I.hok a _ ea)
  exact Gv L8 I.kIn ⟨_,h1,rfl⟩ e (fun z=>nomatch z) h
 | @frz a ob xs ea =>
  cases (show u=A_ a from rx)
  obtain ⟨_,_,_,n,_,h1⟩:=(show ObjOk X.prog X.w H s.heap a (.frz ob (.lst xs)) from I.hok a _ ea)
  exact Gv L8 I.kIn ⟨_,h1,rfl⟩ e (fun z=>nomatch z) h
 | @tup a xs ea =>
  cases (show u=A_ a from rx)
  obtain ⟨_,_,_,p⟩:=(show ObjOk X.prog X.w H s.heap a (.tup xs) from I.hok a _ ea)
  obtain ⟨o,h1,h2,_⟩:=p
  exact Gv PySem.W.kitx_tuple I.kIn ⟨o,h1,h2⟩ e (fun z=>nomatch z) h
 | @dK a kvs ea =>
  cases (show u=A_ a from rx)
  obtain ⟨_,_,vs,_,p⟩:=(show ObjOk X.prog X.w H s.heap a (.dK kvs) from I.hok a _ ea)
  obtain ⟨o,es,ep,h1,h2,_⟩:=p
  exact Gv L9 I.kIn ⟨o,h1,h2.1⟩ e (fun z=>nomatch z) h
 | @dT a kvs ea =>
  cases (show u=A_ a from rx)
  obtain ⟨_,_,xs,_,o,es,ep,h1,h2,_⟩:=(show ObjOk X.prog X.w H s.heap a (.dT kvs) from I.hok a _ ea)
  exact Gv L9 I.kIn ⟨o,h1,h2.1⟩ e (fun z=>nomatch z) h
 | @ins a C dx fs ea cl ha hn htk hm =>
  cases (show u=A_ a from rx)
  obtain ⟨mA,O,_⟩:=u0 I.hok ea
  obtain ⟨od,J,_⟩:=O.look
  exact Gv (PySem.W.kitx_own (cl.get _) cl.hd ha hn htk hm) I.kIn J e (fun z=>nomatch z) h
end
structure Room (k:Nat) (A:w_):Prop where
 hd:A.handled=ck
 dp:A.depth + 3 * k + 5 < recursionLimit
 un:A.units + 16 * k + 200 < cLine
theorem Room.mono {j k:Nat} {A:w_} (r:Room k A) (h:j≤k):Room j A:=⟨r.hd,by have:=r.dp; omega,by have:=r.un; omega⟩
theorem Room.deeper {k:Nat} {A:w_} (r:Room (k + 1) A) (env:Env):Room k (A.deeper env) :=
 ⟨r.hd,by have:=r.dp; show A.depth + 1 + 3 * k + 5 < _; omega,by have:=r.un; show A.units + 3 + 16 * k + 200 < _; omega⟩
theorem Room.in1 {k:Nat} {A:w_} (r:Room (k + 1) A):Room k A.in1 :=
 ⟨r.hd,by have:=r.dp; show A.depth + 3 * k + 5 < _; omega,by have:=r.un; show A.units + 1 + 16 * k + 200 < _; omega⟩
theorem nV {A:w_} {C:i_} {us:List d_} {kw:List (Str×d_)}:(A.under (.builtin "type.__call__" ⟨.ref C :: us,kw⟩)).depth=A.depth + 1:=by
 first | rfl | simp [Mb,Code.weight,Code.isCreation,Code.isGuard,Code.isCaller,Code.frames,Ma,guardIds]
theorem nW {A:w_} {C:i_} {us:List d_} {kw:List (Str×d_)}:(A.under (.builtin "type.__call__" ⟨.ref C :: us,kw⟩)).units=A.units + 1:=by
 first | rfl | simp [Mb,Code.cUnits,Code.frames,Ma]
theorem Room.make {k:Nat} {A:w_} (r:Room (k + 1) A) (C:i_) (us:List d_) (kw:List (Str×d_)):Room k (A.under (.builtin "type.__call__" ⟨.ref C :: us,kw⟩)) :=
 ⟨r.hd,by have:=r.dp; rw [nV]; omega,by have:=r.un; rw [nW]; omega⟩
theorem Room.depth {k:Nat} {A:w_} (r:Room k A):A.depth < recursionLimit:=by have:=r.dp; omega
theorem Room.units {k:Nat} {A:w_} (r:Room k A):A.units + 64 < cLine:=by have:=r.un; omega
theorem Room.units0 {k:Nat} {A:w_} (r:Room k A):A.units < cLine:=by have:=r.un; omega
def DW:TA:=fun _ H Q=>Q [] H
def rT (ta:TE) (tr:TA):TA:=fun σ H Q=>ta σ H fun x H1=>tr σ H1 fun xs H2=>Q (x :: xs) H2
section
variable {X:Cx} {e:C_} {es:List C_} {te:TE} {t:TA} {pos:Pos}
theorem kg:PA X [] DW:=fun _ _ _ _ H Q I h=>Kc ⟨[],H,I,.nil,h⟩
theorem df (ha:PE X e te) (hr:PA X es t) (hs:h_ (e :: es) X.env=(f_,eval e X.env) :: h_ es X.env:=by rfl):PA X (e :: es) (rT te t):=by
 intro pos pins s σ H Q I h
 rw [hs]
 show u_ _ _ (MK ((f_,eval e X.env) :: FP pos (h_ es X.env))) _ _ s
 refine JO (thn (ha pins s σ H _ I h) fun u s1 ⟨x,H1,I1,r1,q1⟩=>?_)
 exact thn (hr pos pins s1 σ H1 _ I1 q1) fun us s2 ⟨xs,H2,I2,r2,q2⟩=>⟨x :: xs,H2,I2,.cons r1 r2,q2⟩
def EN (t:TA):TE:=fun σ H Q=>t σ H fun xs H1=>xs.length≤sizeLine∧∀ p,H1 p=ck→Q (.ref p) (upd H1 p (.tup xs))
def DX (t:TA):TE:=fun σ H Q=>t σ H fun xs H1=>xs.length≤sizeLine∧∀ p,H1 p=ck→Q (.ref p) (upd H1 p (.lst xs))
theorem yk {x1} (h:PA X es t):PE X (.Tuple es x1 pos) (EN t):=by
 intro pins s σ H Q I hq
 refine wpAny_Tuple_spliced (thn (h pos pins s σ H _ I hq) fun us s1 ⟨xs,H1,I1,r,z,q⟩=>⟨by rw [← r.length]; exact z,?_⟩)
 have hf:H1 s1.heap.objs.size=ck:=I1.hok.fresh (m_ _)
 refine ⟨.ref s1.heap.objs.size,upd H1 s1.heap.objs.size (.tup xs),I1.laid (t':=s1.toks) (fun b u e=>k_ _ e) (m_ _) ?_,rfl,q _ hf⟩
 exact ⟨z,us,r,⟨_,z_ _ rfl,rfl,_,rfl⟩⟩
theorem pp (h:PA X es t):PE X (.List es pos) (DX t):=by
 intro pins s σ H Q I hq
 refine wpAny_List_spliced (thn (h pos pins s σ H _ I hq) fun us s1 ⟨xs,H1,I1,r,z,q⟩=>⟨by rw [← r.length]; exact z,?_⟩)
 have hf:H1 s1.heap.objs.size=ck:=I1.hok.fresh (m_ _)
 refine ⟨.ref s1.heap.objs.size,upd H1 s1.heap.objs.size (.lst xs),I1.laid (t':=s1.toks) (fun b u e=>k_ _ e) (m_ _) ?_,rfl,q _ hf⟩
 exact ⟨z,us,0,r,z_ _ rfl⟩
end
abbrev Sp:=List V→Hp→VK→XK→Prop
abbrev CXT:=List Env→Hp→ge→XK→d_→ge→Prop
structure Env0 (P:n_) (w:y_) (K:c_) (mg:Str→Option d_) (base:FF) (A:w_) (outer:List Env) (s:ge) (H:Hp):Prop where
 frames:A.frames=a_ outer
 mod:Mod K mg base
 bs:∀ b o,base.get? b=a_ o→s.heap.get? b=a_ o∧H b=ck
 bsz:base.objs.size≤s.heap.objs.size
 funs:s.heap.FunFrames base outer
 frf:∀ b∈frs outer,H b=ck
 hok:HOk P w H s.heap
 bare:IU s.gens
def CE (outer:List Env) (P:n_) (w:y_) (H:Hp) (s:ge) (Q:VK) (u:d_) (s':ge):Prop :=
 ∃ v H',s'.os=s.os∧IU s'.gens∧Un (frs outer) [] H H' s.heap s'.heap∧HOk P w H' s'.heap∧RelV v u∧Q v H'
def CR (CX:CXT) (outer:List Env) (P:n_) (w:y_) (H:Hp) (s:ge) (Q:VK) (E:XK) (r:LS) (s':ge):Prop :=
 match r with
 | .ok (.ret u)=>CE outer P w H s Q u s'
 | .ok _=>False
 | .error e=>CX outer H s E e s'
structure FnOk (P:n_) (w:y_) (K:c_) (mg:Str→Option d_) (base:FF) (CX:CXT) (k:Nat) (f:i_) (fd:F8) (ps:List Str) (sp:Sp):Prop where
 len:∀ vs H Q E,sp vs H Q E→vs.length=ps.length
 run:∀ (A:w_) (outer:List Env) (s:ge) (H:Hp) (args:Args) (us:List d_) (vs:List V) (Q:VK) (E:XK),Room k A→Env0 P w K mg base A outer s H→Ji s fd args (ps.zip us)→Vals vs us→sp vs H Q E →
  H_ (x_ P w) A (.call (.ref f) args) (CR CX outer P w H s Q E) s
theorem FnOk.mono {P:n_} {w:y_} {K:c_} {mg:Str→Option d_} {base:FF} {CX:CXT} {j k:Nat} {f:i_} {fd:F8} {ps:List Str} {sp:Sp} (F:FnOk P w K mg base CX j f fd ps sp) (h:j≤k) :
 FnOk P w K mg base CX k f fd ps sp:=⟨F.len,fun A outer s H args us vs Q E hr=>F.run A outer s H args us vs Q E (hr.mono h)⟩
theorem FnOk.imp {P:n_} {w:y_} {K:c_} {mg:Str→Option d_} {base:FF} {CX:CXT} {k:Nat} {f:i_} {fd:F8} {ps:List Str} {sp sp':Sp} (F:FnOk P w K mg base CX k f fd ps sp)
 (h:∀ vs H Q E,sp' vs H Q E→sp vs H Q E):FnOk P w K mg base CX k f fd ps sp' :=
 ⟨fun vs H Q E q=>F.len vs H Q E (h _ _ _ _ q),fun A outer s H args us vs Q E hr he hb hv hs=>F.run A outer s H args us vs Q E hr he hb hv (h _ _ _ _ hs)⟩
theorem Env0.make {P:n_} {w:y_} {K:c_} {mg:Str→Option d_} {base:FF} {A:w_} {outer:List Env} {s:ge} {H:Hp} (e:Env0 P w K mg base A outer s H) (C:i_) (us:List d_) (kw:List (Str×d_)) :
 Env0 P w K mg base (A.under (.builtin "type.__call__" ⟨.ref C :: us,kw⟩)) outer s H:=⟨by first | exact e.frames | (simpa [Mb,Code.envs,Ma,pushEnvs] using e.frames),e.mod,e.bs,e.bsz,e.funs,e.frf,e.hok,e.bare⟩
theorem Env0.in1 {P:n_} {w:y_} {K:c_} {mg:Str→Option d_} {base:FF} {A:w_} {outer:List Env} {s:ge} {H:Hp} (e:Env0 P w K mg base A outer s H) :
 Env0 P w K mg base A.in1 outer s H:=⟨e.frames,e.mod,e.bs,e.bsz,e.funs,e.frf,e.hok,e.bare⟩
section
variable {X:Cx} {pins:List (i_×Obj)} {σ:St} {H:Hp} {s s':ge}
theorem Inv.env0 (I:Inv X pins σ H s):Env0 X.prog X.w X.K X.mg X.base X.A X.stack s H :=
 ⟨I.ok.frames,I.ok.mod,I.bs,F6 I.ok.bsz I.sz,I.stack,I.stkFree,I.hok,I.bare⟩
theorem Inv.after {Q:VK} {u:d_} (I:Inv X pins σ H s) (h:CE X.stack X.prog X.w H s Q u s'):EP X pins σ Q u s':=by
 obtain ⟨v,H',os,bare,un,hok,r,q⟩:=h
 obtain ⟨hh,g,d,t,os'⟩:=s'
 obtain rfl:os'=s.os:=os
 exact ⟨v,H',I.call (h':=hh) (g':=g) (d':=d) (t':=t) (ch:=[]) un hok bare (fun b z=>absurd z (by simp)),r,q⟩
end
def B1 (sp:Sp) (dvs:List V) (E:XK) (t:TA):TE:=fun σ H Q=>t σ H fun vs H1=>sp (vs ++ dvs) H1 Q E
def Binds (K:c_) (fd:F8) (ps:List Str) (ds:List d_):Prop :=
 ∀ (s:ge) (us:List d_),K.In s.heap→(us ++ ds).length=ps.length→Ji s fd ⟨us,[]⟩ (ps.zip (us ++ ds))
theorem Binds.all {K:c_} {fd:F8} {ps:List Str} (h:∀ us:List d_,us.length=ps.length→Lf fd ⟨us,[]⟩=pure (ps.zip us)):Binds K fd ps []:=fun s us _ hl=>by
 rw [GE] at hl ⊢
 exact .of_eq (h us hl)
def jf (CX:CXT) (X:Cx) (E:XK):Prop:=∀ (pins:List (i_×Obj)) (σ:St) (H:Hp) (s:ge) (e:d_) (s':ge),Inv X pins σ H s→CX X.stack H s E e s'→X.xe e s'
section
variable {X:Cx} {CX:CXT} {k:Nat} {f C:i_} {fd:F8} {ps:List Str} {sp:Sp} {dvs:List V} {ds:List d_} {E:XK} {x m:Str} {p pos apos:Pos} {e o:C_} {es:List C_} {ta:TE} {t:TA}
theorem ui {pins:List (i_×Obj)} {σ:St} {H:Hp} {s:ge} {Q:VK} {us:List d_} {vs:List V} (F:FnOk X.prog X.w X.K X.mg X.base CX k f fd ps sp) (hr:Room k X.A) (hb:Binds X.K fd ps ds) (hd:Vals dvs ds) (hx:jf CX X E)
 (I:Inv X pins σ H s) (r:Vals vs us) (h:sp (vs ++ dvs) H Q E):u_ (x_ X.prog X.w) X.A (call (.ref f) us) (EP X pins σ Q) X.xe s:=by
 have r2:Vals (vs ++ dvs) (us ++ ds):=r.append hd
 have hl:(us ++ ds).length=ps.length:=by rw [← r2.length]; exact F.len _ _ _ _ h
 refine JE (HK (F.run X.A X.stack s H ⟨us,[]⟩ (us ++ ds) (vs ++ dvs) Q E hr I.env0 (hb s us I.kIn hl) r2 h) fun r s' hq=>?_)
 cases r with
 | error e=>exact hx pins σ H s e s' I hq
 | ok fl =>
  cases fl with
  | ret u=>exact I.after hq
  | next=>exact FK hq
  | brk=>exact FK hq
  | cont=>exact FK hq
theorem jF (F:FnOk X.prog X.w X.K X.mg X.base CX k f fd ps sp) (hr:Room k X.A) (hg:Gl X x) (hm:X.mg x=a_ (.ref f)) (hk:F4 X.K (.ref f)=e_) (hb:Binds X.K fd ps ds) (hd:Vals dvs ds) (hx:jf CX X E)
 (ha:PA X (e :: es) t) (hdb:(x == ("__debug__":Str))=f_:=by decide) (he:h_ (e :: es) X.env=(f_,eval e X.env) :: h_ es X.env:=by rfl) (hpl:(FP pos (h_ es X.env)).any (·.1)=f_:=by rfl) :
 PE X (.Call (.Name x p) (e :: es) [] pos) (B1 sp dvs E t):=by
 intro pins s σ H Q I h
 refine Gq (il I hg hm ?_ hdb)
 refine JG (h₀:=X.base) I.ok.mod.kin hk (thn (ha pos pins s σ H _ I h) fun us s1 ⟨vs,H1,I1,r,q⟩=>⟨I1.kIn,?_⟩) he hpl
 exact ui F hr hb hd hx I1 r q
structure Mk (K:c_) (C f:i_):Prop where
 makes:PySem.W.makesIn K C=e_
 init:IQ K (.ref C) "__init__"=a_ (a_ (.ref f))
 fn:M3 K (.ref f)=e_
 kp:F4 K (.ref C)=e_
end
section
variable {X:Cx} {CX:CXT} {k:Nat} {f C:i_} {fd:F8} {ps ks:List Str} {sp:Sp} {E:XK} {x m:Str} {p pos apos kpos:Pos} {e o:C_} {es:List C_} {kws:List Hy} {te ta:TE} {t tk:TA} {nm:Option Str}
structure DY (K:c_) (fd:F8) (ps ks:List Str) (g:List d_→List d_→List d_) (gV:List V→List V→List V):Prop where
 to:∀ (s:ge) (us ws:List d_),K.In s.heap→(g us ws).length=ps.length→Ji s fd ⟨us,ks.zip ws⟩ (ps.zip (g us ws))
 rel:∀ {vs:List V} {us:List d_} {zs:List V} {ws:List d_},Vals vs us→Vals zs ws→Vals (gV vs zs) (g us ws)
variable {g:List d_→List d_→List d_} {gV:List V→List V→List V}
end
structure cK (N P:List Str) (sc:GK):Prop where
 kind:sc.kind=.function
 co:sc.isCoroutine=f_
 gen:sc.isGenerator=f_
 nd:N.Nodup
 pre:N.take P.length=P
 par:∀ x∈P,sc.names.lookup x=a_ .local∨sc.names.lookup x=a_ .cell
 nofree:∀ y∈sc.names,y.2≠.free
theorem kh {kindOf:Str→Option HF} {x:Str}:∀ {binds:List (Str×d_)} {m:Str→Option d_},(∀ v,(x,v) ∉ binds)→MO kindOf binds m x=m x
 | [],_,_=>rfl
 | (n,v) :: r,m,h=>by
  unfold MO
  rw [kh fun w hw=>h w (on _ hw)]
  split
  · have:x≠n:=by rintro rfl; exact h v p_
    simp [this]
  · rfl
theorem ki {kindOf:Str→Option HF} {x:Str}:∀ {binds:List (Str×d_)} {m:Str→Option d_},(∀ v,(x,v) ∉ binds)→MP kindOf binds m x=m x
 | [],_,_=>rfl
 | (n,v) :: r,m,h=>by
  unfold MP
  rw [ki fun w hw=>h w (on _ hw)]
  split
  · rfl
  · have:x≠n:=by rintro rfl; exact h v p_
    simp [this]
theorem kj {kindOf:Str→Option HF} {x:Str} {v:d_}:∀ {P:List Str} {vs:List d_} {i:Nat} {m:Str→Option d_},P.Nodup→P[i]?=a_ x→vs[i]?=a_ v→kindOf x=a_ .local →
 MO kindOf (P.zip vs) m x=a_ v
 | [],_,_,_,_,h,_,_=>by simp at h
 | _ :: _,[],_,_,_,_,h,_=>by simp at h
 | p :: P,w :: vs,0,m,nd,h1,h2,hk=>by
  simp at h1 h2; subst h1; subst h2
  show MO kindOf ((p,w) :: P.zip vs) m p=_
  unfold MO
  rw [kh fun v hv=>(HW.mp nd).1 (ID hv).1,if_pos hk]
  simp
 | p :: P,w :: vs,i + 1,m,nd,h1,h2,hk=>by
  show MO kindOf ((p,w) :: P.zip vs) m x=_
  unfold MO
  exact kj (i:=i) (HW.mp nd).2 (by simpa using h1) (by simpa using h2) hk
theorem kl {kindOf:Str→Option HF} {x:Str} {v:d_}:∀ {P:List Str} {vs:List d_} {i:Nat} {m:Str→Option d_},P.Nodup→P[i]?=a_ x→vs[i]?=a_ v→kindOf x≠a_ .local →
 MP kindOf (P.zip vs) m x=a_ v
 | [],_,_,_,_,h,_,_=>by simp at h
 | _ :: _,[],_,_,_,_,h,_=>by simp at h
 | p :: P,w :: vs,0,m,nd,h1,h2,hk=>by
  simp at h1 h2; subst h1; subst h2
  show MP kindOf ((p,w) :: P.zip vs) m p=_
  unfold MP
  rw [ki fun v hv=>(HW.mp nd).1 (ID hv).1,if_neg hk]
  simp
 | p :: P,w :: vs,i + 1,m,nd,h1,h2,hk=>by
  show MP kindOf ((p,w) :: P.zip vs) m x=_
  unfold MP
  exact kl (i:=i) (HW.mp nd).2 (by simpa using h1) (by simpa using h2) hk
def start (N:List Str) (vs:List V):St:=vs.map a_ ++ o_ (N.length - vs.length) ck
def iY (CX:CXT) (P:n_) (w:y_) (K:c_) (mg:Str→Option d_) (base:FF) (N:List Str) (qual:Str) (scope:GK) (f:i_) (cd:d_) (A:w_) (outer:List Env) (s:ge) (H:Hp) (E:XK):Cx where
 prog:=P
 w:=w
 K:=K
 mg:=mg
 base:=base
 A:=A.deeper (Hh qual scope s.heap.objs.size f cd)
 N:=N
 s₀:=s
 H₀:=H
 env:=Hh qual scope s.heap.objs.size f cd
 outer:=outer
 stack:=Hh qual scope s.heap.objs.size f cd :: outer
 ex:=[]
 calm:=e_
 fn:=fun _=>e_
 pn:=[]
 xe:=fun e s'=>u_ (x_ P w) (A.deeper (Hh qual scope s.heap.objs.size f cd)) (leaving (Hh qual scope s.heap.objs.size f cd) e) (fun _ s''=>CX outer H s E e s'') (fun e' s''=>CX outer H s E e' s'') s'
theorem mL {sc:GK} {n:Nat} {x:Str} (h:sc.names.lookup x=a_ .cell):∃ c,(F5 n sc.names []).lookup x=a_ c:=by
 have q:=HP sc.names n [] (.inl h)
 exact Hw.mp q
theorem ip {CX:CXT} {P:n_} {w:y_} {K:c_} {mg:Str→Option d_} {base:FF} {N ps:List Str} {qual:Str} {scope:GK} {f:i_} {cd:d_} {A:w_} {outer:List Env} {s s1:ge} {H:Hp} {E:XK} {us:List d_} {vs:List V}
 (S:cK N ps scope) (hd:A.handled=ck) (e0:Env0 P w K mg base A outer s H) (hl:vs.length=ps.length) (r:Vals vs us)
 (x:InCallC s s.heap.objs.size (MO (Hh qual scope s.heap.objs.size f cd).kindOf (ps.zip us) fun _=>ck) (F5 (s.heap.objs.size + 1) scope.names []) (MP (Hh qual scope s.heap.objs.size f cd).kindOf (ps.zip us) fun _=>ck) s1) :
 Inv (iY CX P w K mg base N qual scope f cd A outer s H E) [] (start N vs) H s1:=by
 have hpl:ps.length≤N.length:=by have:=congrArg List.length S.pre; rw [KB] at this; omega
 obtain ⟨h1,tk,rfl,hk⟩:=x.done
 have noA:∀ b:i_,b ∉ (iY CX P w K mg base N qual scope f cd A outer s H E).ex:=fun b z=>absurd (show b∈([]:List i_) from z) (by simp)
 refine ⟨⟨e0.mod,S.kind,rfl,rfl,m_ _,fun y z c h1 h2=>?_,fun y hy=>?_,fun y c _ h=>?_,fun _=>hd,Ln e0.frames,.inr ⟨rfl,rfl⟩,fun b z=>absurd z (noA b),e0.bs,e0.bsz,fun b _ _=>noA b,fun b z=>absurd z (noA b),e0.funs,e0.frf⟩,
  rfl,e0.bare,Un.kept hk,⟨_,x.toInCall.ns,fun i y v h1 h2 h3=>?_⟩,fun y c h=>⟨_,x.cell y c h⟩,e0.hok.fresh (m_ _),fun y c h=>?_,fun p hp=>absurd (show p∈([]:List (i_×Obj)) from hp) (by simp),e0.hok.kept hk,?_⟩
 · exact name_of_addr x.apart (Hx h1) (Hx h2)
 · have hy:scope.names.lookup y=a_ .cell∨scope.names.lookup y=a_ .free:=hy
   rcases hy with hy | hy
   · exact mL hy
   · exact absurd rfl (S.nofree _ (Hx hy))
 · exact Il (x.above y c (Hx h))
 · have hi:i < vs.length:=by
    unfold start at h2
    by_cases hi:i < vs.length
    · exact hi
    · rw [GR (by simpa using hi)] at h2
      rw [HI] at h2
      split at h2 <;> cases h2
   have ha:vs[i]?=a_ v:=by
    unfold start at h2
    rw [Hi (by simpa using hi),FY] at h2
    cases e:vs[i]? with
    | none=>rw [e] at h2; cases h2
    | some a=>rw [e] at h2; cases h2; rfl
   obtain ⟨u,hu,rv⟩:=r.get ha
   have hp:ps[i]?=a_ y:=by
    rw [← S.pre,List.getElem?_take_of_lt (by omega)]; exact h1
   have ndP:ps.Nodup:=by rw [← S.pre]; exact S.nd.sublist (List.take_sublist _ _)
   refine ⟨u,rv,?_⟩
   rcases S.par y (Jq hp) with k | k
   · exact .inl ⟨k,kj ndP hp hu k⟩
   · obtain ⟨c,e⟩:=mL (n:=s.heap.objs.size + 1) k
     refine .inr ⟨.inl k,c,e,?_⟩
     have q:=x.cell y c e
     rw [kl ndP hp hu (by show scope.names.lookup y≠_; rw [k]; decide)] at q
     exact q
 · exact e0.hok.fresh (Il (x.above y c (Hx h)))
 · unfold start
   show _=N.length
   rw [Gs,Gb,He]
   omega
theorem rV {CX:CXT} {P:n_} {w:y_} {K:c_} {mg:Str→Option d_} {base:FF} {k:Nat} {f:i_} {name qual:Str} {params:Arguments} {body:List GT} {scope:GK} {dV kV doc pm cdv ct oc:d_} {an od:Option i_}
 {osl:Array (Option d_)} {N ps:List Str} {sp:Sp} (lk:K.lookup f=a_ ⟨oc,od,.func (HN name qual params body scope dV kV doc pm an cdv ct),osl⟩) (hcd:JF K cdv qual=e_) (S:cK N ps scope)
 (len:∀ vs H Q E,sp vs H Q E→vs.length=ps.length)
 (hbody:∀ (A:w_) (outer:List Env) (s:ge) (H:Hp) (vs:List V) (Q:VK) (E:XK),Room k (A.deeper (Hh qual scope s.heap.objs.size f cdv))→sp vs H Q E →
   ∃ t,PSs (iY CX P w K mg base N qual scope f cdv A outer s H E) body t∧t { nx:=fun _ H'=>Q .non H',rt:=Q } (start N vs) H) :
 FnOk P w K mg base CX (k + 1) f (HN name qual params body scope dV kV doc pm an cdv ct) ps sp:=by
 refine ⟨len,fun A outer s H args us vs Q E hr e0 hb r hsp=>?_⟩
 have hl:=len _ _ _ _ hsp
 have KX:K.In s.heap:=e0.mod.kin.keeps fun b o e=>(e0.bs b o e).1
 have lim:s.heap.NoLimit:=e0.mod.nolimit.keeps fun b o e=>(e0.bs b o e).1
 have hkind:∀ y∈ps.zip us,scope.names.lookup y.1=a_ .local∨(scope.names.lookup y.1=a_ .cell∧((F5 (s.heap.objs.size + 1) scope.names []).lookup y.1).isSome=e_):=fun ⟨n,v⟩ hy=>by
  rcases S.par n (ID hy).1 with q | q
  · exact .inl q
  · exact .inr ⟨q,HP _ _ _ (.inl q)⟩
 refine K7 hr.depth (KX _ _ lk) rfl S.co S.gen rfl (LP KX hcd) (hb _ _ _ _ ?_)
 refine Ie S.kind hkind fun env he s1 x=>?_
 subst he
 refine ⟨lim.keeps x.toInCall.keep,codeAny_func ?_⟩
 obtain ⟨t,ht,hq⟩:=hbody A outer s H vs Q E (hr.deeper _) hsp
 have I:Inv (iY CX P w K mg base N qual scope f cdv A outer s H E) [] (start N vs) H s1:=ip S hr.hd e0 hl r x
 refine FU (ht [] s1 (start N vs) H _ I hq) (fun fl s' hs=>?_) fun e s' hs=>hs
 have fin:∀ {σ':St} {H':Hp} {v:V} {u:d_},Inv (iY CX P w K mg base N qual scope f cdv A outer s H E) [] σ' H' s'→RelV v u→Q v H'→CE outer P w H s Q u s' :=
  fun {σ' H' v u} J rv q=>⟨v,H',J.os,J.bare,J.base,J.hok,rv,q⟩
 cases fl with
 | ret u =>
  obtain ⟨v,σ',H',J,rv,q⟩:=hs
  exact fin J rv q
 | next =>
  obtain ⟨σ',H',J,q⟩:=hs
  exact fin (v:=V.non) (u:=FX) J rfl q
 | brk =>
  obtain ⟨_,_,_,q⟩:=hs
  exact FK q
 | cont =>
  obtain ⟨_,_,_,q⟩:=hs
  exact FK q
section
variable {X:Cx} {x:Str} {p pos:Pos} {e:C_} {es:List C_} {t:TA} {id T:String} {r:List V→Hp→VK→Prop}
def tCB (r:List V→Hp→VK→Prop) (t:TA):TE:=fun σ H Q=>t σ H fun vs H1=>r vs H1 Q
theorem fg (hc:CallR X (.builtin id) r) (hg:Gl X x) (hm:X.mg x=ck) (hv:Go x=a_ (.builtin id)) (ha:PA X (e :: es) t) (hn:x≠"__name__":=by decide) (hdb:(x == ("__debug__":Str))=f_:=by decide)
 (he:h_ (e :: es) X.env=(f_,eval e X.env) :: h_ es X.env:=by rfl) (hpl:(FP pos (h_ es X.env)).any (·.1)=f_:=by rfl):PE X (.Call (.Name x p) (e :: es) [] pos) (tCB r t):=by
 intro pins s σ H Q I h
 refine Gq (et I hg hm hv ?_ hn hdb)
 exact Jf (thn (ha pos pins s σ H _ I h) fun us s1 ⟨vs,H1,I1,r1,q1⟩=>hc pins s1 σ H1 vs us Q I1 r1 q1) he hpl
theorem km (hc:CallR X (.type T) r) (hg:Gl X x) (hm:X.mg x=ck) (hv:Go x=a_ (.type T)) (ha:PA X (e :: es) t) (hn:x≠"__name__":=by decide) (hdb:(x == ("__debug__":Str))=f_:=by decide)
 (he:h_ (e :: es) X.env=(f_,eval e X.env) :: h_ es X.env:=by rfl) (hpl:(FP pos (h_ es X.env)).any (·.1)=f_:=by rfl):PE X (.Call (.Name x p) (e :: es) [] pos) (tCB r t):=by
 intro pins s σ H Q I h
 refine Gq (et I hg hm hv ?_ hn hdb)
 exact Gg (thn (ha pos pins s σ H _ I h) fun us s1 ⟨vs,H1,I1,r1,q1⟩=>hc pins s1 σ H1 vs us Q I1 r1 q1) he hpl
end
end L2
namespace HT
open PySem PyProof.Rows
section
open PySem.SeqAt
open PySem.AutoSeq1 (wpAny_loadPart')
open PySem.MeetsSeq PySem.MeetsSeq2 PySem.MeetsSeq3
end
section
variable {prog:n_} {w:y_} {A:w_} {E:d_→ge→Prop} {s:ge}
theorem cat_tup {t b:i_} {vs ws:List d_} {Q:d_→ge→Prop} (ht:MT s.heap t vs.toArray) (hb:MT s.heap b ws.toArray) (hv:vs≠[])
 (h1:ws=[]→Q (.ref t) s) (h2:ws≠[]→Q (.ref s.heap.objs.size) { s with heap:=s.heap.push { cls:=.type "tuple",data:=.seq (vs ++ ws).toArray } })
 (hsz:vs.length + ws.length≤sizeLine):u_ (x_ prog w) A (GV .Add (.ref t) (.ref b)) Q E s:=by
 obtain ⟨⟨cls,dd,data,sl⟩,ho,hc,n,hd⟩:=id ht
 obtain ⟨⟨cls2,dd2,data2,sl2⟩,ho2,hc2,n2,hd2⟩:=id hb
 simp only at hc hd hc2 hd2
 subst hc hd hc2 hd2
 have e:vs.toArray ++ ws.toArray=(vs ++ ws).toArray:=by simp
 by_cases hw:ws=[]
 · exact L4 ⟨_,ho,rfl⟩ ⟨_,ho2,rfl⟩ Ko LF IS IJ (Iu _ _)
    (tuple_addW1 t b vs.toArray ws.toArray n n2 dd dd2 sl sl2 (by simpa using hv) (by simp [hw])) ⟨ho,ho2,h1 hw⟩
 · refine L4 ⟨_,ho,rfl⟩ ⟨_,ho2,rfl⟩ Ko LF IS IJ (Iu _ _)
    (tuple_addW2 t b vs.toArray ws.toArray n n2 dd dd2 sl sl2 (by simpa using hv) (by simpa using hw) (by rw [uk,uk]; exact hsz)) ⟨ho,ho2,?_⟩
   rw [e]
   exact h2 hw
def sIx (n d:Nat):Option Int→Nat
 | none=>d
 | some v=>if v < 0 then (v + (n:Int)).toNat else min v.toNat n
theorem yl (n d:Nat) (hd:d≤n) (o:Option Int):sIx n d o≤n:=by
 cases o with
 | none=>exact hd
 | some v =>
  show (if v < 0 then (v + (n:Int)).toNat else min v.toNat n)≤n
  by_cases hv:v < 0
  · rw [if_pos hv]; omega
  · rw [if_neg hv]; exact Mz _ _
theorem pq (v:Int) (n d:Nat):(if v < 0 then max (v + (n:Int)) 0 else min v (n:Int))=((sIx n d (a_ v):Nat):Int):=by
 show (if v < 0 then max (v + (n:Int)) 0 else min v (n:Int))=(((if v < 0 then (v + (n:Int)).toNat else min v.toNat n):Nat):Int)
 by_cases hv:v < 0
 · simp only [if_pos hv]; omega
 · simp only [if_neg hv]; omega
theorem nX (lo hi:Option Int) (n:Nat):Iq lo hi 1 (n:Int)=(((sIx n 0 lo:Nat):Int),((sIx n n hi:Nat):Int)):=by
 have h1:¬ ((1:Int) < 0):=by omega
 unfold Iq
 simp only [h1,if_false]
 refine Prod.ext ?_ ?_
 · cases lo with
   | none=>rfl
   | some v=>exact pq v n 0
 · cases hi with
   | none=>rfl
   | some v=>exact pq v n n
theorem nY (i j:Nat):Hg (i:Int) (j:Int) 1=j - i:=by
 unfold Hg
 have h1:(1:Int) > 0:=by omega
 simp only [h1,if_true,Int.ediv_one]
 split <;> omega
theorem jg {v:d_} {o:Option Int} {Q:Option Int→ge→Prop} (p:KQ v o) (h:Q o s):u_ (x_ prog w) A (Builtin.Slice.slicePartIndex v) Q E s:=by
 cases p with
 | none=>exact slicePart_none h
 | int i t=>exact slicePart_int h
theorem sliceApplied_gen {sl:i_} {vl vu:d_} {lo hi:Option Int} {n:Nat} {Q:Int×Int×Nat→ge→Prop} (hs:s.heap.IsSliceOf sl vl vu .none) (pl:KQ vl lo) (pu:KQ vu hi)
 (h:Q (((sIx n 0 lo:Nat):Int),1,sIx n n hi - sIx n 0 lo) s):u_ (x_ prog w) A (JR (.ref sl) (pure (n:Int))) Q E s:=by
 obtain ⟨os,hos,hcs,hds⟩:=id hs
 unfold JR Builtin.Slice.sliceFields
 refine g_ (g_ (La hos hds (x:=vl) rfl (g_ (La hos hds (x:=vu) rfl (g_ (La hos hds (x:=.none) rfl (j_ ?_)))))))
 refine g_ (slicePart_none ?_)
 show u_ _ _ (if ((1:Int) == 0)=e_ then _ else _) _ _ s
 rw [if_neg (by decide)]
 refine g_ (jg pl (g_ (jg pu (g_ (j_ ?_)))))
 show u_ _ _ (match Iq lo hi 1 (n:Int) with | (lo,hi)=>pure (lo,(1:Int),Hg lo hi 1)) _ _ s
 rw [nX lo hi n]
 show u_ _ _ (pure (((sIx n 0 lo:Nat):Int),(1:Int),Hg ((sIx n 0 lo:Nat):Int) ((sIx n n hi:Nat):Int) 1)) _ _ s
 rw [nY]
 exact j_ h
theorem rW (xs:Array d_) (i k:Nat):((pi k).filterMap fun (m:Nat)=>xs[((i:Int) + (m:Int) * 1).toNat]?).toArray=((xs.toList.drop i).take k).toArray:=by
 have e:(fun (m:Nat)=>xs[((i:Int) + (m:Int) * 1).toNat]?)=fun m=>xs[i + m]?:=by
  funext m
  have:((i:Int) + (m:Int) * 1).toNat=i + m:=by omega
  rw [this]
 rw [e]
 have:=pick_run xs i k
 rw [IE] at this
 have e2:((fun x=>xs[x]?) ∘ fun x=>i + x)=fun m=>xs[i + m]?:=rfl
 rw [e2] at this
 rw [this]
theorem getItem_tuple_cut {t sl:i_} {items:Array d_} {vl vu:d_} {lo hi:Option Int} {Q:d_→ge→Prop} (ht:MT s.heap t items) (hs:s.heap.IsSliceOf sl vl vu .none) (pl:KQ vl lo) (pu:KQ vu hi)
 (hw:¬ (sIx items.size 0 lo=0∧sIx items.size items.size hi=items.size))
 (h:Q (.ref s.heap.objs.size) { s with heap:=s.heap.push { cls:=.type "tuple",data:=.seq ((items.toList.drop (sIx items.size 0 lo)).take (sIx items.size items.size hi - sIx items.size 0 lo)).toArray } })
 (hsz:items.size≤sizeLine):u_ (x_ prog w) A (KM (.ref t) (.ref sl)) Q E s:=by
 have htake:sizeOk (.seq ((items.toList.drop (sIx items.size 0 lo)).take (sIx items.size items.size hi - sIx items.size 0 lo)).toArray):=by
  show ((items.toList.drop (sIx items.size 0 lo)).take (sIx items.size items.size hi - sIx items.size 0 lo)).toArray.size≤sizeLine
  rw [uk,KB,MB,Gi]
  omega
 have hj:sIx items.size items.size hi≤items.size:=yl _ _ (m_ _) hi
 obtain ⟨os,hos,hcs,hds⟩:=id hs
 have hTs:s.TypeIs (.ref sl) "slice":=⟨os,hos,hcs⟩
 unfold KM
 try with_reducible refine GL ?_
 first | refine g_ (j_ ?_) | skip
 refine g_ (wpAny_sequenceKey ht.typeIs (by decide) ?_)
 refine g_ (Kn (name:=b_ "__getitem__") ht.typeIs Gh
  (wpAny_call_entry Gh ht.typeIs entry_tuple_getitem ?_ (args_tuple_getitem _ _)))
 show u_ _ _ (JQ (.ref t) >>= _) _ _ s
 refine g_ (tupleItemsOf_ ht ?_)
 refine g_ (Jy hTs ?_)
 rw [if_pos (by decide)]
 refine g_ (sliceApplied_gen hs pl pu ?_)
 have hno:¬ ((((sIx items.size 0 lo:Nat):Int) == 0 && (1:Int) == 1 && (sIx items.size items.size hi - sIx items.size 0 lo) == items.size)=e_):=by
  intro q
  rw [l_,l_] at q
  have q1:((sIx items.size 0 lo:Nat):Int)=0:=Lw q.1.1
  have q2:sIx items.size items.size hi - sIx items.size 0 lo=items.size:=Lw q.2
  exact hw ⟨by omega,by omega⟩
 show u_ _ _ (if (((sIx items.size 0 lo:Nat):Int) == 0 && (1:Int) == 1 && (sIx items.size items.size hi - sIx items.size 0 lo) == items.size)=e_ then _ else _) _ _ s
 rw [if_neg hno,rW]
 first
  | exact g_ (m:=Hv _) (H4 (j_ ⟨_,rfl,j_ h⟩) htake)
  | exact g_ (m:=Hv _) (H4 (g_ (j_ (j_ ⟨_,rfl,j_ h⟩))) htake)
  | exact g_ (g_ (m:=Hv _) (H4 (j_ (j_ ⟨_,rfl,j_ h⟩)) htake))
  | exact g_ (g_ (m:=Hv _) (H4 (j_ ⟨_,rfl,j_ h⟩) htake))
end
end HT
namespace L2
open PySem PySem.Spec PyProof.Rows
abbrev TO:=St→Hp→(Option Int→Hp→Prop)→Prop
def PO (X:Cx) (e:Option C_) (t:TO):Prop :=
 ∀ (pins:List (i_×Obj)) (s:ge) (σ:St) (H:Hp) (Q:Option Int→Hp→Prop),Inv X pins σ H s→t σ H Q →
  u_ (x_ X.prog X.w) X.A (evalPart e X.env) (fun u s'=>∃ o H',Inv X pins σ H' s'∧KQ u o∧Q o H') X.xe s
def u8:TO:=fun _ H Q=>Q ck H
def B4 (t:TE):TO:=fun σ H Q=>t σ H fun x H1=>∃ i,x=.int i∧Q (a_ i) H1
section
variable {X:Cx} {e:C_} {te:TE} {lo hi:Option C_} {tl th:TO} {pos p2:Pos}
theorem u9:PO X ck u8:=by
 intro pins s σ H Q I h
 rw [LG]
 exact j_ ⟨ck,H,I,.none,h⟩
theorem vb (h:PE X e te):PO X (a_ e) (B4 te):=by
 intro pins s σ H Q I hw
 rw [evalPart_some]
 refine thn (h pins s σ H _ I hw) fun u s1 ⟨x,H1,I1,r1,q1⟩=>?_
 obtain ⟨i,rfl,q⟩:=q1
 obtain ⟨t,rfl⟩:=r1
 exact ⟨a_ i,H1,I1,.int i t,q⟩
def SlR (X:Cx) (r:V→Option Int→Option Int→Hp→VK→Prop):Prop :=
 ∀ (pins:List (i_×Obj)) (s:ge) (σ:St) (H:Hp) (x:V) (v vl vu:d_) (lo hi:Option Int) (sl:i_) (Q:VK),Inv X pins σ H s→RelV x v→s.heap.IsSliceOf sl vl vu .none→KQ vl lo→KQ vu hi→r x lo hi H Q →
  ∃ T id,typeLookup (.type T) "__getitem__"=pure (a_ (.builtin id))∧s.TypeIs v T∧u_ (x_ X.prog X.w) X.A (KM v (.ref sl)) (EP X pins σ Q) X.xe s
theorem SlR.or {r r':V→Option Int→Option Int→Hp→VK→Prop} (h:SlR X r) (h':SlR X r'):SlR X (fun x lo hi H Q=>r x lo hi H Q∨r' x lo hi H Q):=by
 intro pins s σ H x v vl vu lo hi sl Q I rx hs pl pu q
 rcases q with q | q
 · exact h pins s σ H x v vl vu lo hi sl Q I rx hs pl pu q
 · exact h' pins s σ H x v vl vu lo hi sl Q I rx hs pl pu q
def tSl (r:V→Option Int→Option Int→Hp→VK→Prop) (te:TE) (tl th:TO):TE:=fun σ H Q=>te σ H fun x H1=>tl σ H1 fun l H2=>th σ H2 fun u H3=>r x l u H3 Q
theorem mM {r:V→Option Int→Option Int→Hp→VK→Prop} (hr:SlR X r) (he:PE X e te) (hl:PO X lo tl) (hu:PO X hi th):PE X (.Subscript e (.Slice lo hi ck p2) pos) (tSl r te tl th):=by
 intro pins s σ H Q I h
 refine Subscript_ (thn (he pins s σ H _ I h) fun v s1 ⟨x,H1,I1,r1,q1⟩=>?_)
 refine wpAny_Slice (thn (hl pins s1 σ H1 _ I1 q1) fun vl s2 ⟨l,H2,I2,pl,q2⟩=>thn (hu pins s2 σ H2 _ I2 q2) fun vu s3 ⟨u,H3,I3,pu,q3⟩=>?_)
 rw [LG]
 refine j_ ?_
 have I4:Inv X pins σ H3 { s3 with heap:=s3.heap.push { cls:=.type "slice",data:=.fields #[vl,vu,.none] } }:=I3.kept (t':=s3.toks) fun b ob q=>k_ _ q
 obtain ⟨T,id,hT,ht,hg⟩:=hr pins { s3 with heap:=s3.heap.push { cls:=.type "slice",data:=.fields #[vl,vu,.none] } } σ H3 x v vl vu l u s3.heap.objs.size Q I4 r1 (LU ..) pl pu q3
 show u_ (x_ X.prog X.w) X.A (LN e (.Slice lo hi ck p2) v (.ref s3.heap.objs.size)) (EP X pins σ Q) X.xe { s3 with heap:=s3.heap.push { cls:=.type "slice",data:=.fields #[vl,vu,.none] } }
 exact tail_any (ops:=[.ref s3.heap.objs.size,v]) ht hT hg (by with_unfolding_all rfl)
def rX (xs:List V) (lo hi:Option Int):List V:=(xs.drop (HT.sIx xs.length 0 lo)).take (HT.sIx xs.length xs.length hi - HT.sIx xs.length 0 lo)
theorem iq (xs:List V) (lo hi:Option Int):(rX xs lo hi).length≤xs.length:=by
 unfold rX
 rw [KB,MB]
 omega
def EO (K:c_):V→Option Int→Option Int→Hp→VK→Prop:=fun x lo hi H Q=>∃ a xs,x=.ref a∧SqT K H a xs ∧
 ¬ (HT.sIx xs.length 0 lo=0∧HT.sIx xs.length xs.length hi=xs.length)∧∀ p,H p=ck→Q (.ref p) (upd H p (.tup (rX xs lo hi)))
theorem sl_tup:SlR X (EO X.K):=by
 intro pins s σ H x v vl vu lo hi sl Q I rx hs pl pu h
 obtain ⟨a,xs,rfl,hx,hw,q⟩:=h
 cases rx
 obtain ⟨its,r,ht,hz⟩:=I.tuple hx
 have hlen:its.toArray.size=xs.length:=by rw [uk]; exact r.length.symm
 refine ⟨"tuple",_,Gh.lookup,ht.typeIs,?_⟩
 refine HT.getItem_tuple_cut ht hs pl pu (by rw [hlen]; exact hw) ?_ (by rw [hlen]; exact hz)
 rw [hlen]
 refine ⟨.ref s.heap.objs.size,_,I.laid (t':=s.toks) (o:=.tup (rX xs lo hi)) (fun b ob q=>k_ _ q) (m_ _) ?_,rfl,q _ (I.hok.fresh (m_ _))⟩
 exact ⟨F6 (iq xs lo hi) hz,_,(r.drop (HT.sIx xs.length 0 lo)).take (HT.sIx xs.length xs.length hi - HT.sIx xs.length 0 lo),M1 _ _⟩
def ym (K:c_):R2:=fun x y H Q=>∃ a b xs ys,x=.ref a∧y=.ref b∧SqT K H a xs∧SqT K H b ys∧xs≠[]∧xs.length + ys.length≤sizeLine ∧
 (ys=[]→Q (.ref a) H)∧(ys≠[]→∀ p,H p=ck→Q (.ref p) (upd H p (.tup (xs ++ ys))))
theorem Vals.nil_iff {xs:List V} {us:List d_} (r:Vals xs us):us=[]↔xs=[]:=by
 cases r with
 | nil=>simp
 | cons _ _=>simp
theorem op_catT:OpR X (GV .Add) (ym X.K):=by
 intro pins s σ H x y v u Q I rx ry h
 obtain ⟨a,b,xs,ys,rfl,rfl,ha,hb,hx,hz,q1,q2⟩:=h
 cases rx
 cases ry
 obtain ⟨its,r1,p1,_⟩:=I.tuple ha
 obtain ⟨its2,r2,p2,_⟩:=I.tuple hb
 refine HT.cat_tup p1 p2 (fun z=>hx (r1.nil_iff.mp z)) (fun z=>⟨.ref a,H,I,rfl,q1 (r2.nil_iff.mp z)⟩) (fun z=>?_) (by rw [← r1.length,← r2.length]; exact hz)
 refine ⟨.ref s.heap.objs.size,_,I.laid (t':=s.toks) (o:=.tup (xs ++ ys)) (fun b ob q=>k_ _ q) (m_ _) ?_,rfl,q2 (fun w=>z (r2.nil_iff.mpr w)) _ (I.hok.fresh (m_ _))⟩
 exact ⟨by rw [Gs]; exact hz,_,r1.append r2,M1 _ _⟩
end
def ixN (n:Nat) (i:Int):Option Nat:=if 0≤i then (if i < n then a_ i.toNat else ck) else if -(n:Int)≤i then a_ (i + n).toNat else ck
def atI {α:Type} (xs:List α) (i:Int):Option α:=(ixN xs.length i).bind fun j=>xs[j]?
theorem vd {n:Nat} {i:Int} {j:Nat} (h:ixN n i=a_ j):seqIndex? i n=a_ j∧j < n∧-(n:Int)≤i∧i < n:=by
 unfold ixN at h
 by_cases h0:0≤i
 · rw [if_pos h0] at h
   by_cases h1:i < n
   · rw [if_pos h1] at h
     have e:i.toNat=j:=F0 h
     exact ⟨by rw [seqIndex_of h0 h1,e],by omega,by omega,h1⟩
   · rw [if_neg h1] at h; cases h
 · rw [if_neg h0] at h
   by_cases h1:-(n:Int)≤i
   · rw [if_pos h1] at h
     have e:(i + n).toNat=j:=F0 h
     exact ⟨by rw [seqIndex_neg (by omega) h1,e],by omega,h1,by omega⟩
   · rw [if_neg h1] at h; cases h
theorem lJ {α:Type} {xs:List α} {i:Int} {v:α} (h:atI xs i=a_ v):∃ j,seqIndex? i xs.length=a_ j∧xs[j]?=a_ v∧j < xs.length∧-(xs.length:Int)≤i∧i < xs.length:=by
 unfold atI at h
 cases e:ixN xs.length i with
 | none=>rw [e] at h; cases h
 | some j =>
  rw [e] at h
  obtain ⟨h1,h2,h3,h4⟩:=vd e
  exact ⟨j,h1,h,h2,h3,h4⟩
def lK (b:C_):Prop:=∀ o i,ME b f_ o i=operate [o,i] (KM o i)
def IxR (X:Cx) (r:R2):Prop :=
 ∀ (value slice:C_) (pins:List (i_×Obj)) (s:ge) (σ:St) (H:Hp) (x y:V) (v u:d_) (Q:VK),Inv X pins σ H s→RelV x v→RelV y u→r x y H Q →
  ME slice f_ v u=operate [v,u] (KM v u)→u_ (x_ X.prog X.w) X.A (LN value slice v u) (EP X pins σ Q) X.xe s
def MtR (X:Cx) (id:String) (r:V→List V→Hp→VK→Prop):Prop :=
 ∀ (pins:List (i_×Obj)) (s:ge) (σ:St) (H:Hp) (x:V) (xs:List V) (v:d_) (us:List d_) (Q:VK),Inv X pins σ H s→RelV x v→Vals xs us→r x xs H Q →
  u_ (x_ X.prog X.w) X.A (call (.builtin id) (v :: us)) (EP X pins σ Q) X.xe s
section
variable {X:Cx} {a b:C_} {ta tb:TE} {pos:Pos}
theorem IxR.or {r r':R2} (h:IxR X r) (h':IxR X r'):IxR X (fun x y H Q=>r x y H Q∨r' x y H Q):=by
 intro value slice pins s σ H x y v u Q I rx ry q hs
 rcases q with q | q
 · exact h value slice pins s σ H x y v u Q I rx ry q hs
 · exact h' value slice pins s σ H x y v u Q I rx ry q hs
theorem MtR.or {id:String} {r r':V→List V→Hp→VK→Prop} (h:MtR X id r) (h':MtR X id r'):MtR X id (fun x xs H Q=>r x xs H Q∨r' x xs H Q):=by
 intro pins s σ H x xs v us Q I rx rs q
 rcases q with q | q
 · exact h pins s σ H x xs v us Q I rx rs q
 · exact h' pins s σ H x xs v us Q I rx rs q
theorem yn {r:R2} (hr:IxR X r) (ha:PE X a ta) (hb:PE X b tb) (hs:lK b):PE X (.Subscript a b pos) (tOp r ta tb):=by
 intro pins s σ H Q I h
 exact Subscript_ (BU ha hb I h fun v u s2 x y H2 I2 rx ry q=>hr a b pins s2 σ H2 x y v u Q I2 rx ry q (hs _ _))
def B5 (K:c_):R2:=fun x y H Q=>∃ p xs i v,x=.ref p∧y=.int i∧SqL K H p xs∧atI xs i=a_ v∧Q v H
def DZ (K:c_):R2:=fun x y H Q=>∃ p xs i v,x=.ref p∧y=.int i∧SqT K H p xs∧atI xs i=a_ v∧Q v H
def D4:R2:=fun x y H Q=>∃ z i c,x=.str z∧y=.int i∧z.length≤sizeLine∧atI z.cps.toList i=a_ c∧Q (.str ⟨#[c]⟩) H
theorem ix_list:IxR X (B5 X.K):=by
 intro value slice pins s σ H x y v u Q I rx ry h hs
 obtain ⟨p,xs,i,z,rfl,rfl,hq,he,q⟩:=h
 cases rx
 obtain ⟨t,rfl⟩:=ry
 obtain ⟨its,r,pl,hz⟩:=I.list hq
 obtain ⟨j,h1,h2,h3,h4,h5⟩:=lJ he
 obtain ⟨w,ew,rw'⟩:=r.get h2
 have hl:=r.length
 have hn:=mJ
 have fin:EP X pins σ Q w s:=⟨z,H,I,rw',q⟩
 by_cases h0:0≤i
 · have hj:i.toNat=j:=by
    rw [seqIndex_of h0 h5] at h1
    exact F0 h1
   exact item_listR pl.isList h0 (by omega) (by rw [hj]; simpa using ew) fin hs
 · have hj:(i + (its.toArray.size:Int)).toNat=j:=by
    rw [seqIndex_neg (by omega) h4] at h1
    rw [uk,← hl]
    exact F0 h1
   exact KS (x:=w) pl.isList.typeIs J_.lookup
    (wpAny_getItem_list_neg (Q:=fun r s'=>r=w∧EP X pins σ Q r s') pl.isList (by omega) (by rw [uk] <;> omega) (by omega) (by rw [hj]; simpa using ew) ⟨rfl,fin⟩) hs
theorem ix_tup:IxR X (DZ X.K):=by
 intro value slice pins s σ H x y v u Q I rx ry h hs
 obtain ⟨p,xs,i,z,rfl,rfl,hq,he,q⟩:=h
 cases rx
 obtain ⟨t,rfl⟩:=ry
 obtain ⟨its,r,pl,hz⟩:=I.tuple hq
 obtain ⟨j,h1,h2,h3,h4,h5⟩:=lJ he
 obtain ⟨w,ew,rw'⟩:=r.get h2
 have hl:=r.length
 have hn:=mJ
 have fin:EP X pins σ Q w s:=⟨z,H,I,rw',q⟩
 exact KS (x:=w) pl.typeIs slot_tuple_getitem.lookup
  (getItem_tuple (j:=j) (Q:=fun r s'=>r=w∧EP X pins σ Q r s') pl (by omega) (by omega) (by rw [uk,← hl]; exact h1) (by simpa using ew) ⟨rfl,fin⟩) hs
theorem yo:IxR X D4:=by
 intro value slice pins s σ H x y v u Q I rx ry h hs
 obtain ⟨z,i,c,rfl,rfl,hz,he,q⟩:=h
 obtain ⟨t,rfl⟩:=rx
 obtain ⟨t',rfl⟩:=ry
 obtain ⟨j,h1,h2,h3,h4,h5⟩:=lJ he
 have hl:z.cps.toList.length=z.length:=by simp [Str.length]
 rw [hl] at h1 h4 h5
 have hn:=mJ
 exact tail_any (Jd s z t) slot_str_getitem.lookup (getItem_str (c:=c) (by
  have e1:t_ (i < -(2 ^ 63:Int))=f_:=decide_eq_false (by omega)
  have e2:t_ (i ≥ 2 ^ 63)=f_:=decide_eq_false (by omega)
  rw [e1,e2,Bool.or_false]) (by rw [h1]; simpa using h2) ⟨.str ⟨#[c]⟩,H,I.tok _,⟨_,rfl⟩,q⟩) hs
def rIx (K:c_):R2:=fun x y H Q=>B5 K x y H Q∨DZ K x y H Q∨D4 x y H Q
theorem yp:IxR X (rIx X.K):=ix_list.or (ix_tup.or yo)
theorem Inv.lst {pins:List (i_×Obj)} {σ:St} {H:Hp} {s:ge} {p:i_} {xs:List V} (I:Inv X pins σ H s) (h:H p=a_ (.lst xs)) :
 ∃ (its:List d_) (n:Nat),Vals xs its∧s.heap.get? p=a_ { cls:=.type "list",data:=.seq its.toArray n }∧xs.length≤sizeLine:=by
 obtain ⟨z,its,n,r,e⟩:=I.hok p _ h
 exact ⟨its,n,r,e,z⟩
theorem ko (lo hi:Option Int) (n:Nat):(IG lo hi ck n).1=((HT.sIx n 0 lo:Nat):Int)∧(IG lo hi ck n).2.1=((HT.sIx n n hi:Nat):Int)∧(IG lo hi ck n).2.2=1:=by
 refine ⟨?_,?_,rfl⟩
 · cases lo with
   | none=>simp [IG,HT.sIx]
   | some i =>
    simp only [IG,HT.sIx,My,show (1:Int) > 0 by decide,if_true]
    by_cases h:i < 0
    · simp only [h,if_true] <;> omega
    · simp only [h,if_false] <;> omega
 · cases hi with
   | none=>simp [IG,HT.sIx]
   | some i =>
    simp only [IG,HT.sIx,My,show (1:Int) > 0 by decide,if_true]
    by_cases h:i < 0
    · simp only [h,if_true] <;> omega
    · simp only [h,if_false] <;> omega
theorem jG (its:List d_) (lo hi:Option Int):slicePick its.toArray lo hi ck=((its.drop (HT.sIx its.length 0 lo)).take (HT.sIx its.length its.length hi - HT.sIx its.length 0 lo)).toArray:=by
 obtain ⟨h1,h2,h3⟩:=ko lo hi its.toArray.size
 unfold slicePick
 rw [h1,h2,h3]
 simp only [sliceRange_one,pick_run,uk] <;> rfl
def EQ (K:c_):V→Option Int→Option Int→Hp→VK→Prop:=fun x lo hi H Q=>∃ a xs,x=.ref a∧SqL K H a xs∧∀ p,H p=ck→Q (.ref p) (upd H p (.lst (rX xs lo hi)))
theorem pr:SlR X (EQ X.K):=by
 intro pins s σ H x v vl vu lo hi sl Q I rx hs pl pu h
 obtain ⟨a,xs,rfl,hx,q⟩:=h
 cases rx
 obtain ⟨its,r,ht,hz⟩:=I.list hx
 have hlen:=r.length
 refine ⟨"list",_,J_.lookup,ht.isList.typeIs,?_⟩
 refine Kh ht.isList hs pl pu .none (by simp) ?_ (by rw [uk] <;> omega)
 rw [jG,← hlen]
 refine ⟨.ref s.heap.objs.size,_,I.laid (t':=s.toks) (o:=.lst (rX xs lo hi)) (fun b ob q=>k_ _ q) (m_ _) ?_,rfl,q _ (I.hok.fresh (m_ _))⟩
 exact ⟨F6 (iq xs lo hi) hz,_,0,(r.drop (HT.sIx xs.length 0 lo)).take (HT.sIx xs.length xs.length hi - HT.sIx xs.length 0 lo),z_ _ rfl⟩
def el:V→Bool
 | .non=>e_
 | .bl _=>e_
 | .int _=>e_
 | .str _=>e_
 | _=>f_
def eqV:V→V→Bool
 | .non,.non=>e_
 | .bl a,.bl b=>a == b
 | .bl a,.int b=>(if a then 1 else 0) == b
 | .int a,.bl b=>a == (if b then 1 else 0)
 | .int a,.int b=>a == b
 | .str a,.str b=>a == b
 | _,_=>f_
theorem yq {A:w_} {s:ge} {y x:V} {u v:d_} (ry:RelV y u) (rx:RelV x v) (fy:el y=e_) (fx:el x=e_):SeqAt.EqAt A s u v (eqV y x):=by
 cases y with
 | non =>
  cases ry
  cases x with
  | non=>cases rx; exact SeqAt.EqAt.same _
  | bl b=>cases rx; exact SeqAt.EqAt.none_bool b
  | int b=>obtain ⟨t,rfl⟩:=rx; exact SeqAt.EqAt.none_int b t
  | str b=>obtain ⟨t,rfl⟩:=rx; exact SeqAt.EqAt.none_str b t
  | _=>exact absurd (show f_=e_ from fx) q_
 | bl a =>
  cases ry
  cases x with
  | non=>cases rx; exact SeqAt.EqAt.bool_none a
  | bl b=>cases rx; exact SeqAt.EqAt.bool_bool a b
  | int b=>obtain ⟨t,rfl⟩:=rx; exact SeqAt.EqAt.bool_int a b t
  | str b=>obtain ⟨t,rfl⟩:=rx; exact SeqAt.EqAt.bool_str a b t
  | _=>exact absurd (show f_=e_ from fx) q_
 | int a =>
  obtain ⟨t',rfl⟩:=ry
  cases x with
  | non=>cases rx; exact SeqAt.EqAt.int_none a t'
  | bl b=>cases rx; exact SeqAt.EqAt.int_bool a t' b
  | int b=>obtain ⟨t,rfl⟩:=rx; exact SeqAt.EqAt.int_int a t' b t
  | str b=>obtain ⟨t,rfl⟩:=rx; exact LR a t' b t
  | _=>exact absurd (show f_=e_ from fx) q_
 | str a =>
  obtain ⟨t',rfl⟩:=ry
  cases x with
  | non=>cases rx; exact SeqAt.EqAt.str_none a t'
  | bl b=>cases rx; exact SeqAt.EqAt.str_bool a t' b
  | int b=>obtain ⟨t,rfl⟩:=rx; exact LQ a t' b t
  | str b=>obtain ⟨t,rfl⟩:=rx; exact SeqAt.EqAt.str_str a t' b t
  | _=>exact absurd (show f_=e_ from fx) q_
 | _=>exact absurd (show f_=e_ from fy) q_
def eqU (x:V) (u:d_):Bool:=match u with
 | .none=>eqV .non x
 | .bool b=>eqV (.bl b) x
 | .int i _=>eqV (.int i) x
 | .str z _=>eqV (.str z) x
 | _=>f_
theorem mO {x y:V} {u:d_} (r:RelV y u) (f:el y=e_):eqU x u=eqV y x:=by
 cases y with
 | non=>cases r; rfl
 | bl b=>cases r; rfl
 | int i=>obtain ⟨t,rfl⟩:=r; rfl
 | str z=>obtain ⟨t,rfl⟩:=r; rfl
 | _=>exact absurd (show f_=e_ from f) q_
theorem iu {x:V}:∀ {xs:List V} {us:List d_},Vals xs us→xs.all el=e_→us.any (eqU x)=xs.any fun y=>eqV y x
 | _,_,.nil,_=>rfl
 | y :: xs,u :: us,.cons r t,f=>by
  rw [G4,l_] at f
  rw [Jk,Jk,mO r f.1,iu t f.2]
theorem dH {A:w_} {s:ge} {x:V} {v:d_} (rx:RelV x v) (fx:el x=e_):∀ {xs:List V} {us:List d_},Vals xs us→xs.all el=e_→∀ u∈us,SeqAt.EqAt A s u v (eqU x u)
 | _,_,.nil,_=>fun u hu=>by cases hu
 | y :: xs,u :: us,.cons r t,f=>fun u' hu=>by
  rw [G4,l_] at f
  rcases FB.mp hu with rfl | hu
  · rw [mO r f.1]; exact yq r rx f.1 fx
  · exact dH rx fx t f.2 u' hu
def inV (x:V) (xs:List V):Bool:=xs.any fun y=>eqV y x
def rIn (K:c_) (neg:Bool):R2:=fun x y H Q=>∃ p xs,y=.ref p∧(SqL K H p xs∨SqT K H p xs)∧el x=e_∧xs.all el=e_∧Q (.bl (if neg then !inV x xs else inV x xs)) H
theorem pv:OpR X (F9 .In) (rIn X.K f_):=by
 intro pins s σ H x y v u Q I rx ry h
 obtain ⟨p,xs,rfl,hq,fx,fs,q⟩:=h
 cases ry
 rcases hq with hq | hq
 · obtain ⟨its,r,pl,hz⟩:=I.list hq
   refine SeqAt.in_listAt (eqU x) pl.isList (fun w hw=>dH rx fx r fs w (by simpa using hw)) ⟨.bl _,H,I,rfl,?_⟩
   rw [show its.toArray.any (eqU x)=its.any (eqU x) by simp,iu r fs]
   exact q
 · obtain ⟨its,r,pl,hz⟩:=I.tuple hq
   refine SeqAt.in_tupleAt (eqU x) pl (fun w hw=>dH rx fx r fs w (by simpa using hw)) ⟨.bl _,H,I,rfl,?_⟩
   rw [show its.toArray.any (eqU x)=its.any (eqU x) by simp,iu r fs]
   exact q
theorem kq:OpR X (F9 .NotIn) (rIn X.K e_):=by
 intro pins s σ H x y v u Q I rx ry h
 obtain ⟨p,xs,rfl,hq,fx,fs,q⟩:=h
 cases ry
 rcases hq with hq | hq
 · obtain ⟨its,r,pl,hz⟩:=I.list hq
   refine SeqAt.notIn_listAt (eqU x) pl.isList (fun w hw=>dH rx fx r fs w (by simpa using hw)) ⟨.bl _,H,I,rfl,?_⟩
   rw [show its.toArray.any (eqU x)=its.any (eqU x) by simp,iu r fs]
   exact q
 · obtain ⟨its,r,pl,hz⟩:=I.tuple hq
   refine SeqAt.notIn_tupleAt (eqU x) pl (fun w hw=>dH rx fx r fs w (by simpa using hw)) ⟨.bl _,H,I,rfl,?_⟩
   rw [show its.toArray.any (eqU x)=its.any (eqU x) by simp,iu r fs]
   exact q
theorem op_notIn_str:OpR X (F9 .NotIn) (fun x y H Q=>∃ i j,x=.str i∧y=.str j∧Q (.bl (!(!(FQ j i 0 j.length 1).isEmpty))) H):=by
 intro pins s σ H x y v u Q I rx ry h
 obtain ⟨i,j,rfl,rfl,q⟩:=h
 obtain ⟨t,rfl⟩:=rx
 obtain ⟨t',rfl⟩:=ry
 exact notIn_str ⟨.bl _,H,I,rfl,q⟩
theorem CallR.or {f:d_} {r r':List V→Hp→VK→Prop} (h:CallR X f r) (h':CallR X f r'):CallR X f (fun xs H Q=>r xs H Q∨r' xs H Q):=by
 intro pins s σ H xs us Q I rs q
 rcases q with q | q
 · exact h pins s σ H xs us Q I rs q
 · exact h' pins s σ H xs us Q I rs q
theorem kr:CallR X (.type "list") (fun xs H Q=>∃ p ys,xs=[.ref p]∧(SqL X.K H p ys∨SqT X.K H p ys)∧∀ l,H l=ck→Q (.ref l) (upd H l (.lst ys))):=by
 intro pins s σ H xs us Q I r h
 obtain ⟨p,ys,rfl,hq,q⟩:=h
 obtain ⟨u,rfl,rx⟩:=eC r
 cases rx
 have fin:∀ (its:List d_),Vals ys its→ys.length≤sizeLine→∀ (h':FF) (c':Nat),(∀ b o',s.heap.get? b=a_ o'→h'.get? b=a_ o') →
  h'.get? s.heap.objs.size=a_ { cls:=.type "list",dict:=ck,data:=.seq its.toArray c',slots:=#[] }→EP X pins σ Q (.ref s.heap.objs.size) { s with heap:=h' }:=fun its r' hz h' c' kp e =>
  ⟨.ref s.heap.objs.size,_,I.laid (t':=s.toks) kp (m_ _) (show ObjOk X.prog X.w _ h' _ (.lst ys) from ⟨hz,its,c',r',e⟩),rfl,q _ (I.hok.fresh (m_ _))⟩
 rcases hq with hq | hq
 · obtain ⟨its,r',pl,hz⟩:=I.list hq
   have hlen:=r'.length
   obtain ⟨o,ho,hc,n,hd⟩:=pl.isList
   exact call_list_seq p (.inl rfl) ho hc hd (fun h' c' kp e=>fin its r' hz h' c' kp e) (by simp only [uk] <;> omega)
 · obtain ⟨its,r',pl,hz⟩:=I.tuple hq
   have hlen:=r'.length
   obtain ⟨o,ho,hc,n,hd⟩:=pl
   exact call_list_seq p (.inr rfl) ho hc hd (fun h' c' kp e=>fin its r' hz h' c' kp e) (by simp only [uk] <;> omega)
theorem jH:CallR X (.type "tuple") (fun xs H Q=>∃ p ys,xs=[.ref p]∧((SqL X.K H p ys∧∀ l,H l=ck→Q (.ref l) (upd H l (.tup ys)))∨(SqT X.K H p ys∧Q (.ref p) H))):=by
 intro pins s σ H xs us Q I r h
 obtain ⟨p,ys,rfl,h⟩:=h
 obtain ⟨u,rfl,rx⟩:=eC r
 cases rx
 rcases h with ⟨hq,q⟩ | ⟨hq,q⟩
 · obtain ⟨its,r',pl,hz⟩:=I.list hq
   have hlen:=r'.length
   refine call_tuple_list pl.isList (fun h' kp=>?_) (by simp only [uk] <;> omega)
   have I1:Inv X pins σ H { s with heap:=h' }:=I.kept (t':=s.toks) kp
   have I2:Inv X pins σ (upd H h'.objs.size (.tup ys)) { s with heap:=h'.push { cls:=.type "tuple",data:=.seq its.toArray } } :=
    I1.laid (t':=s.toks) (fun b o e=>k_ _ e) (m_ _) (show ObjOk X.prog X.w _ _ _ (.tup ys) from ⟨hz,its,r',M1 _ _⟩)
   exact ⟨.ref h'.objs.size,_,I2,rfl,q _ (I1.hok.fresh (m_ _))⟩
 · obtain ⟨its,r',pl,hz⟩:=I.tuple hq
   exact call_tuple_same pl ⟨.ref p,H,I,rfl,q⟩
def tyV (K:c_) (T:String) (x:V) (H:Hp):Prop:=match x with
 | .str _=>T="str"
 | .int _=>T="int"
 | .ref p=>(T="list"∧∃ xs,SqL K H p xs)∨(T="tuple"∧∃ o,K.lookup p=a_ o∧o.cls=.type "tuple"∧o.dict=ck) ∨
  (T="dict"∧((∃ kvs,H p=a_ (.dK kvs))∨∃ kvs,H p=a_ (.dT kvs)))∨(T="set"∧∃ S n,H p=a_ (.set S n))
 | _=>False
theorem yr {pins:List (i_×Obj)} {σ:St} {H:Hp} {s:ge} {T:String} {x:V} {v:d_} (I:Inv X pins σ H s) (r:RelV x v) (ty:tyV X.K T x H) :
 s.TypeIs v T∧∀ a,v=.ref a→∃ ob,s.heap.get? a=a_ ob∧ob.dict=ck:=by
 cases x with
 | str z =>
  obtain ⟨t,rfl⟩:=r
  cases (show T="str" from ty)
  exact ⟨Jd s z t,fun _ e=>nomatch e⟩
 | int i =>
  obtain ⟨t,rfl⟩:=r
  cases (show T="int" from ty)
  exact ⟨typeIs_int s i t,fun _ e=>nomatch e⟩
 | ref p =>
  cases r
  rcases ty with ⟨rfl,xs,hq⟩ | ⟨rfl,o,hk,hc,hd⟩ | ⟨rfl,hk⟩ | ⟨rfl,S,n,hk⟩
  · obtain ⟨its,_,pl,_⟩:=I.list hq
    refine ⟨pl.isList.typeIs,fun a e=>?_⟩
    cases e
    obtain ⟨o,n,e,c,hd,_⟩:=pl
    exact ⟨o,e,hd⟩
  · refine ⟨⟨o,I.kIn p o hk,hc⟩,fun a e=>?_⟩
    cases e
    exact ⟨o,I.kIn _ o hk,hd⟩
  · have z:∃ o,s.heap.get? p=a_ o∧o.ExactDict:=by
     rcases hk with ⟨kvs,hk⟩ | ⟨kvs,hk⟩
     · obtain ⟨_,_,_,_,o,_,_,e,ex,_⟩:=I.hok p _ hk
       exact ⟨o,e,ex⟩
     · obtain ⟨_,_,_,_,o,_,_,e,ex,_⟩:=I.hok p _ hk
       exact ⟨o,e,ex⟩
    obtain ⟨o,e,ex⟩:=z
    refine ⟨⟨o,e,ex.1⟩,fun a e2=>?_⟩
    cases e2
    exact ⟨o,e,ex.2.1⟩
  · obtain ⟨o,_,_,_,e,ex,_⟩:=I.hok p _ hk
    refine ⟨⟨o,e,ex.1⟩,fun a e2=>?_⟩
    cases e2
    exact ⟨o,e,ex.2.1⟩
 | _=>exact FK ty
def tBM (K:c_) (T:String) (r:V→List V→Hp→VK→Prop) (to:TE) (t:TA):TE:=fun σ H Q=>to σ H fun x H1=>tyV K T x H1∧t σ H1 fun xs H2=>r x xs H2 Q
variable {o e:C_} {es:List C_} {to:TE} {t:TA} {name:Str} {apos cpos:Pos} {T id:String} {r:V→List V→Hp→VK→Prop}
theorem rY (pa:PlainAttrs T) (slot:Slot T name id) (hty:typeOf (.builtin id)=pure (.type "method_descriptor")) (hm:MtR X id r) (ho:PE X o to) (ha:PA X (e :: es) t)
 (hbase:HY o name X.env (eval o X.env)=eval o X.env:=by rfl)
 (hfew:((FP cpos (h_ (e :: es) X.env)).all (fun x=>!x.1) && (Ho cpos (GB [] X.env)).all (fun x=>x.1.isSome)
   && t_ ((e :: es).length + ([]:List Hy).length + (if ([]:List Hy).isEmpty then 0 else 1) < 30))=e_:=by rfl)
 (hline:(apos.endLine == cpos.line)=e_:=by rfl) (hs:h_ (e :: es) X.env=(f_,eval e X.env) :: h_ es X.env:=by rfl) (hplain:(FP cpos (h_ es X.env)).any (·.1)=f_:=by rfl) :
 PE X (.Call (.Attribute o name apos) (e :: es) [] cpos) (tBM X.K T r to t):=by
 intro pins s σ H Q I h
 refine wpAny_Call_method_late hbase hfew hline rfl (thn (ho pins s σ H _ I h) fun v s1 ⟨x,H1,I1,r1,ty,q1⟩=>?_)
 obtain ⟨h1,h2⟩:=yr I1 r1 ty
 refine ⟨T,id,pa,slot,hty,h1,h2,?_⟩
 have hA:=ha cpos pins s1 σ H1 _ I1 q1
 rw [hs] at hA ⊢
 refine Calls.callWith_builtin (by show (f_ || (FP cpos (h_ es X.env)).any (·.1))=f_; rw [hplain] <;> rfl) (Lm ?_)
 exact thn hA fun us s2 ⟨vs,H2,I2,r2,q2⟩=>hm pins s2 σ H2 x vs v us Q I2 r1 r2 q2
end
def MtM (X:Cx) (id:String) (r:V→List V→Hp→VK→Prop):Prop :=
 ∀ (pins:List (i_×Obj)) (s:ge) (σ:St) (H:Hp) (x:V) (xs:List V) (v:d_) (us:List d_) (Q:VK),Inv X pins σ H s→RelV x v→Vals xs us→r x xs H Q →
  u_ (x_ X.prog X.w) X.A (call (.builtin id) (v :: us)) (EP X pins σ Q) X.xe s
theorem Vals.one:∀ {x:V} {us:List d_},Vals [x] us→∃ u,us=[u]∧RelV x u
 | _,_,.cons r .nil=>⟨_,rfl,r⟩
theorem Vals.two:∀ {x y:V} {us:List d_},Vals [x,y] us→∃ u v,us=[u,v]∧RelV x u∧RelV y v
 | _,_,_,.cons r (.cons q .nil)=>⟨_,_,rfl,r,q⟩
theorem Vals.zero:∀ {us:List d_},Vals [] us→us=[]
 | _,.nil=>rfl
theorem Vals.reverse {xs:List V} {us:List d_} (h:Vals xs us):Vals xs.reverse us.reverse:=by
 induction h with
 | nil=>exact .nil
 | cons r t ih=>rw [Hr,Hr]; exact Vals.append ih (.cons r .nil)
theorem Vals.rep {xs:List V} {us:List d_} (h:Vals xs us):∀ k:Nat,Vals (o_ k xs).flatten (o_ k us).flatten
 | 0=>.nil
 | k + 1=>by
  rw [GA,GA,Hs,Hs]
  exact Vals.append h (Vals.rep h k)
theorem kt (its:List d_):∀ (k:Nat) (acc:List d_),
 LW (fun x1 x2=>x1 ++ x2) acc.toArray (o_ k its.toArray)=(acc ++ (o_ k its).flatten).toArray
 | 0,acc=>by simp
 | k + 1,acc=>by
  have e:acc.toArray ++ its.toArray=(acc ++ its).toArray:=by simp
  have e2:(acc ++ its) ++ (o_ k its).flatten=acc ++ (o_ (k + 1) its).flatten:=by
   rw [GA,Hs,Ia]
  rw [← e2,← kt its k (acc ++ its),← e,GA,K3]
section
variable {X:Cx} {pins:List (i_×Obj)} {σ:St} {H:Hp} {s:ge} {l b:i_} {xs ys zs:List V}
theorem Inv.lset {its its':List d_} {n:Nat} {f:Array d_→Array d_} {t':Nat} (I:Inv X pins σ H s) (hH:H l=a_ (.lst xs))
 (e:s.heap.get? l=a_ { cls:=.type "list",data:=.seq its.toArray n }) (hf:f its.toArray=its'.toArray) (hv:Vals ys its') (hz:ys.length≤sizeLine) :
 Inv X pins σ (upd H l (.lst ys)) { s with heap:=s.heap.update l (Gc f),toks:=t' }:=by
 have q:=Mv e f
 rw [hf] at q
 refine I.write (x:=l) (e:=l) (by rw [hH]; exact trivial) (.inl rfl) (fun b' u hb hu=>(KR s.heap (Gc f) (IX hb)).trans hu) ⟨_,q⟩ ?_
 exact ⟨hz,its',_,hv,q⟩
theorem Inv.lnew {its:List d_} {t':Nat} (I:Inv X pins σ H s) (hv:Vals ys its) (hz:ys.length≤sizeLine) :
 Inv X pins σ (upd H s.heap.objs.size (.lst ys)) { s with heap:=s.heap.push { cls:=.type "list",data:=.seq its.toArray },toks:=t' } :=
 I.laid (fun _ _ q=>k_ _ q) (m_ _) ⟨hz,its,0,hv,z_ _ rfl⟩
theorem Inv.fresh (I:Inv X pins σ H s):H s.heap.objs.size=ck:=I.hok.fresh (m_ _)
theorem Inv.lstM (I:Inv X pins σ H s) (hH:H l=a_ (.lst xs)):xs.length≤sizeLine∧∃ (its:List d_) (n:Nat),Vals xs its∧xs.length=its.length∧s.heap.get? l=a_ { cls:=.type "list",data:=.seq its.toArray n }:=by
 obtain ⟨z,its,n,r,e⟩:=I.hok l _ hH
 exact ⟨z,its,n,r,r.length,e⟩
theorem rZ {n:Nat} (h:n≤sizeLine):Iv n=f_:=by
 unfold Iv
 exact decide_eq_false (by omega)
end
section
variable {X:Cx}
def ve:V→List V→Hp→VK→Prop:=fun x vs H Q=>∃ l xs y,x=.ref l∧vs=[y]∧H l=a_ (.lst xs)∧xs.length < sizeLine∧Q .non (upd H l (.lst (xs ++ [y])))
theorem pw:MtM X "list.append" ve:=by
 intro pins s σ H x vs v us Q I rx rv h
 obtain ⟨l,xs,y,rfl,rfl,hH,hz,q⟩:=h
 cases rx
 obtain ⟨u,rfl,ru⟩:=rv.one
 obtain ⟨z,its,n,r,hl,e⟩:=I.lstM hH
 refine HL Jo ⟨_,e,rfl⟩ Lz (Lk _ _) (LZ l its.toArray n u (by rw [uk]; omega)) ⟨e,?_⟩
 refine ⟨.non,_,I.lset (its':=its ++ [u]) hH e (by simp) (r.append (.cons ru .nil)) ?_,rfl,q⟩
 rw [Gs,K8]
 omega
def D6:R2:=fun x y H Q=>∃ l b xs zs,x=.ref l∧y=.ref b∧H l=a_ (.lst xs)∧H b=a_ (.lst zs)∧xs.length + zs.length≤sizeLine∧∀ p,H p=ck→Q (.ref p) (upd H p (.lst (xs ++ zs)))
theorem yt:OpR X (GV .Add) D6:=by
 intro pins s σ H x y v u Q I rx ry h
 obtain ⟨l,b,xs,zs,rfl,rfl,hH,hB,hz,q⟩:=h
 cases rx
 cases ry
 obtain ⟨z,its,n,r,hl,e⟩:=I.lstM hH
 obtain ⟨z2,its2,n2,r2,hl2,e2⟩:=I.lstM hB
 refine PySem.P.add_list e e2 ?_ (by rw [uk,uk]; omega)
 have ea:its.toArray ++ its2.toArray=(its ++ its2).toArray:=by simp
 rw [ea]
 exact ⟨.ref _,_,I.lnew (t':=s.toks) (r.append r2) (by rw [Gs]; omega),rfl,q _ I.fresh⟩
def D7:R2:=fun x y H Q=>∃ l k xs,x=.ref l∧y=.int k∧H l=a_ (.lst xs)∧-(2 ^ 63)≤k∧k < 2 ^ 63∧xs.length * k.toNat≤sizeLine ∧
 ∀ p,H p=ck→Q (.ref p) (upd H p (.lst (o_ k.toNat xs).flatten))
theorem vf {α:Type} (xs:List α) (k:Nat):(o_ k xs).flatten.length=k * xs.length:=by
 induction k with
 | zero=>simp
 | succ k ih=>rw [GA,Hs,Gs,ih,Me,Nat.add_comm]
theorem op_rep:OpR X (GV .Mult) D7:=by
 intro pins s σ H x y v u Q I rx ry h
 obtain ⟨l,k,xs,rfl,rfl,hH,h1,h2,hz,q⟩:=h
 cases rx
 obtain ⟨t,rfl⟩:=ry
 obtain ⟨z,its,n,r,hl,e⟩:=I.lstM hH
 have hlen:its.toArray.size * k.toNat≤sizeLine:=by rw [uk,← hl]; exact hz
 have hcap:¬ its.toArray.size * k.toNat > (2 ^ 63 - 1) / 8:=by
  have:(sizeLine:Nat)≤(2 ^ 63 - 1) / 8:=by decide
  omega
 have hfit:¬ (!Builtin.List.listFitsIndex k)=e_:=by
  rw [fitsIndex_both h1 h2]
  exact q_
 have hlong:¬ Iv (its.toArray.size * k.toNat)=e_:=by
  rw [rZ hlen]
  exact q_
 have hnew:LW (fun x1 x2=>x1 ++ x2) #[] (o_ (if its.toArray.isEmpty=e_ then 0 else k.toNat) its.toArray)=(o_ k.toNat its).flatten.toArray:=by
  have f0:∀ m:Nat,LW (fun x1 x2=>x1 ++ x2) #[] (o_ m its.toArray)=(o_ m its).flatten.toArray:=fun m=>by
   have:=kt its m []
   rw [K2] at this
   exact this
  rw [f0]
  cases its with
  | nil=>simp
  | cons a r'=>rw [if_neg (by simp)]
 refine wpAny_binaryOp_repeat_ref (T:="list") (U:="int") (by decide) ⟨_,e,rfl⟩ (fun s'=>typeIs_int s' k t) noFill_list_mul F.fills_int_mul F.slot_int_rmul repeat_list F.slot_int_index.lookup
  (HL F.slot_int_rmul (typeIs_int s k t) F.entry_int_rmul (F.args_int_rmul_2 _ _) (int___rmul___int_list k t l its.toArray n)
    ⟨e,rfl,⟨_,e,rfl⟩,HL F.slot_list_mul ⟨_,e,rfl⟩ F.entry_list_mul (F.args_list_mul_2 _ _) (AutoListH.list___mul___list_int_3 l its.toArray n k t hfit hcap hlong) ⟨e,?_⟩⟩)
 rw [hnew]
 exact ⟨.ref _,_,I.lnew (t':=s.toks) (r.rep k.toNat) (by rw [vf,Mf]; exact hz),rfl,q _ I.fresh⟩
end
section
variable {prog:n_} {w:y_} {A:w_} {E:d_→ge→Prop} {s:ge}
end
section
variable {X:Cx}
end
end L2
namespace Att
open PySem PySem.W PySem.Calls PyProof.Rows
theorem iv {P:Je} {h:FF}:∀ (ns:List Int) (vs:List d_),WellAll P h vs (ns.map WData.int)→Ke vs ns:=by
 intro ns
 induction ns with
 | nil =>
  intro vs w
  rw [List.map_nil] at w
  cases w
  exact .nil
 | cons n ns ih =>
  intro vs w
  rw [FV] at w
  cases w with
  | cons a b =>
   cases a
   exact .cons _ _ (ih _ b)
theorem pB {l:OpenLaw} {n:Nat} (hn:l.most=a_ n) {P:Je} {h:FF} {args:List WData} {vals:List d_}
 (hpre:l.row.toRowW.claim.pre args=e_) (hwl:WellAll P h vals args) :
 ∃ a vs ns,vals=[A_ a]∧args=[WData.list (ns.map WData.int)]∧h.get? a=a_ { cls:=.type "list",data:=.seq vs.toArray }∧Ke vs ns∧ns.length≤n:=by
 have hsh:WShape.hasAll [] args [.list .int]=e_:=(pre_splitW hpre).1
 have hc:l.pre.holds [] { args:=args }=e_:=(pre_splitW hpre).2
 obtain ⟨d,r,rfl,h1,h2⟩:=hasAllW_cons hsh
 obtain rfl:=hasAllW_nil h2
 obtain ⟨xs,rfl,h3⟩:=hasW_list h1
 obtain ⟨ns,rfl⟩:=items_int h3
 have hlen:ns.length≤n:=by
  unfold OpenLaw.pre at hc
  have h4:(WTm.not (.lt (.lit (.int (n:Int))) (.len (.arg 0)))).holds [] { args:=[.list (ns.map .int)] }=e_:=by
   have h4:=(holds_andW hc).1
   rw [hn] at h4
   exact h4
  have h5:=condW_of h4 (w_not (w_lt w_lit (w_len_list (w_arg rfl))))
  rw [Gb] at h5
  refine Nat.le_of_not_lt fun q=>?_
  have q':(n:Int) < ((ns.length:Nat):Int):=by omega
  first
   | (rw [decide_eq_true q'] at h5; exact absurd h5 (by decide))
   | (simp at h5; omega)
 cases hwl with
 | cons w1 w2 =>
  cases w2
  cases w1 with
  | list ho hall=>exact ⟨_,_,ns,rfl,rfl,ho,iv ns _ hall,hlen⟩
theorem pC (l:OpenLaw) (args:List WData):l.row.toRowW.claim.post args (.bool e_) args=e_ :=
 postW_of (r:=l.row.toRowW) (X:=(e_ == e_))
  (show WShape.has [] (.bool e_) .bool=e_ by first | rfl | decide | simp [WShape.has,WShape.arms,WShape.armsAll])
  (show (WTm.eq .res (.lit (.bool e_))).value [] { args:=args,res:=a_ (.bool e_),after:=args }=a_ (.bool (e_ == e_)) from w_eq_bool (w_res rfl) w_lit) rfl
theorem attach_call {l:OpenLaw} {n:Nat} {q:n_} {loose:List Str} {XP:(Str→Option d_)→FF→Prop} {YP:y_→FF→Prop} {d:DefRec}
 (hn:l.most=a_ n) (hdf:d.params.defaults=[])
 (call:∀ (w:y_) (s₀ s₁:ge) (mg mb:Str→Option d_) (fa:i_) (o:Obj) (pm cd doc:d_) (a:i_) (vs:List d_) (ns:List Int),
   Ground q loose [] XP w s₀ mg mb s₁.heap→YP w s₁.heap →
   s₁.heap.get? fa=a_ o→o.data=.func (docDef d.name d.params d.body d.scope pm cd doc)→s₁.heap.CodeRec cd d.name→mg d.name=a_ (.ref fa) →
   s₁.heap.get? a=a_ { cls:=.type "list",data:=.seq vs.toArray }→Ke vs ns→ns.length≤n→s₁.gens=#[] →
   H_ (x_ l.prog w) Iy (.call (.ref fa) ⟨[.ref a],[]⟩) (fun r s'=>r=.ok (.ret (.bool e_))∧OldK s₁.heap s'.heap∧s'.os=s₁.os∧IU s'.gens) s₁) :
 WalkO q loose XP YP l.row.toRowW d [] (fun f vs=>LO f vs):=by
 intro w s₀ s₁ mg mb G Y fa o pm cd doc dV kV ho hd hcd hD hmg hg args vals as hpre hlay hrd hwl hlo
 obtain rfl:dV=.none:=Dflts.none hD hdf
 obtain rfl:kV=.none:=Dflts.noKw hD
 obtain ⟨a,vs,ns,rfl,rfl,hobj,hints,hlen⟩:=pB hn hpre hwl
 refine enter_call (HK (call w s₀ s₁ mg mb fa o pm cd doc a vs ns G Y ho (fd_plain hd) hcd hmg hobj hints hlen hg) fun r s' hq=>?_)
 obtain ⟨rfl,h2,h3,h4⟩:=hq
 exact ⟨.inl ⟨.bool e_,.bool e_,[],rfl,fun _=>rfl,.bool e_,pC l _,fun _=>⟨Kg,fun _ hm=>(nomatch hm)⟩⟩,h2,h3,h4⟩
section
variable {prog:n_} {w:y_} {A:w_} {E:d_→ge→Prop} {s:ge} {K:Frag}
def D8 (h:FF) (L d:i_):List (i_×Obj):=(pi h.objs.size).filterMap fun a=>if a=L∨a=d then ck else (h.get? a).map fun o=>(a,o)
end
end Att
namespace L2
open PySem PySem.Spec PyProof.Rows
theorem eD:∀ {vs:List d_} {ns:List Int},Ke vs ns→Vals (ns.map V.int) vs
 | _,_,.nil=>.nil
 | _,_,.cons n t h=>.cons ⟨t,rfl⟩ (eD h)
def B6 (H:Hp):Prop:=∀ b,H b=ck∨∃ o xs,H b=a_ (.frz o (.lst xs))
theorem r9 {P:n_} {w:y_} {K:c_} {mg mb:Str→Option d_} {CX:CXT} {k:Nat} {fa a:i_} {fd:F8} {x:Str} {sp:Sp} {s₁:ge} {vs:List d_} {ns:List Int}
 (KX:K.In s₁.heap) (hns:s₁.heap.Ns rl mg) (hb:s₁.heap.Ns builtinsNs mb) (hbb:∀ x:Str,x≠"__name__"→mb x=Go x) (hlim:s₁.heap.NoLimit) (hg:s₁.gens=#[])
 (ha:s₁.heap.get? a=a_ { cls:=.type "list",data:=.seq vs.toArray }) (hi:Ke vs ns) (hl:ns.length≤sizeLine) (hr:Room k Iy)
 (F:∀ base:FF,K.In base→base.Ns rl mg→FnOk P w K mg base CX k fa fd [x] sp) (hbind:∀ (s:ge) (u:d_),Ji s fd ⟨[u],[]⟩ [(x,u)])
 (hsp:∀ H:Hp,B6 H→SqL K H a (ns.map V.int)→sp [.ref a] H (fun v _=>v=.bl e_) fun _ _ _=>False)
 (hCX:∀ H e s',CX [] H s₁ (fun _ _ _=>False) e s'→False) :
 H_ (x_ P w) Iy (.call (.ref fa) ⟨[.ref a],[]⟩) (fun r s'=>r=.ok (.ret (.bool e_))∧OldK s₁.heap s'.heap∧s'.os=s₁.os∧IU s'.gens) s₁:=by
 have rv:=eD hi
 have lenV:=hi.length
 have core:∀ H:Hp,B6 H→SqL K H a (ns.map V.int)→HOk P w H s₁.heap→(∀ b,H b≠ck→b=a)→(H a≠ck→K.lookup a=ck) →
  H_ (x_ P w) Iy (.call (.ref fa) ⟨[.ref a],[]⟩) (fun r s'=>r=.ok (.ret (.bool e_))∧OldK s₁.heap s'.heap∧s'.os=s₁.os∧IU s'.gens) s₁:=by
  intro H hO hS hok hA hK
  have base_of:∀ {b:i_} {o:Obj},s₁.heap.get? b=a_ o→H b=ck→(mD s₁.heap H).get? b=a_ o:=fun e n=>mE e n
  have noA:∀ {b:i_} {o:Obj} {es:Array DictEntry} {ep:Nat},s₁.heap.get? b=a_ o→o.data=.dict es ep→H b=ck:=fun {b o es ep} e d=>by
   cases q:H b with
   | none=>rfl
   | some u =>
    have e':b=a:=hA b (by rw [q]; simp)
    subst e'
    rw [ha] at e; cases e
    have d':Data.seq vs.toArray _=Hl es ep:=d
    cases d'
  have nsK:∀ {b:i_} {m:Str→Option d_},s₁.heap.Ns b m→(mD s₁.heap H).Ns b m:=fun {b m} ⟨o,es,ep,e,d,r⟩=>⟨o,es,ep,base_of e (noA e d),d,r⟩
  have hKb:K.In (mD s₁.heap H):=fun b o e=>base_of (KX b o e) (by
   cases q:H b with
   | none=>rfl
   | some u =>
    have e':b=a:=hA b (by rw [q]; simp)
    subst e'
    rw [hK (by rw [q]; simp)] at e; cases e)
  have hM:Mod K mg (mD s₁.heap H):=⟨hKb,nsK hns,⟨mb,nsK hb,hbb⟩,let ⟨mc,h1,h2⟩:=hlim; ⟨mc,nsK h1,h2⟩⟩
  have e0:Env0 P w K mg (mD s₁.heap H) Iy [] s₁ H:=⟨rfl,hM,fun b o e=>oR e,Im (ke _ _),trivial,fun b hb=>absurd (show b∈([]:List i_) from hb) (by simp),hok,.of_eq hg⟩
  refine HK ((F _ hKb (nsK hns)).run Iy [] s₁ H ⟨[.ref a],[]⟩ [.ref a] [.ref a] _ _ hr e0 (hbind s₁ (.ref a)) (.cons rfl .nil) (hsp H hO hS)) fun r s' h=>?_
  cases r with
  | error e=>exact (hCX H e s' h).elim
  | ok fl =>
   cases fl with
   | next=>exact FK h
   | brk=>exact FK h
   | cont=>exact FK h
   | ret u =>
    obtain ⟨v,H',os,bare,un,hok',r',q⟩:=h
    have q':v=.bl e_:=q
    subst q'
    obtain rfl:u=Gk e_:=r'
    refine ⟨rfl,OldK.of_keep fun b o e=>?_,os,bare⟩
    cases q:H b with
    | none=>exact un.keep b o e q (by intro z; exact absurd (show b∈([]:List i_) from z) (by simp)) (by simp)
    | some u =>
     rcases hO b with z | ⟨ob,xs,z⟩
     · rw [q] at z; cases z
     · have z2:=un.frzs b ob _ z
       obtain ⟨e1,_⟩:=hok b _ z
       obtain ⟨e2,_⟩:=hok' b _ z2
       rw [e] at e1; cases e1
       exact e2
 cases hk:K.lookup a with
 | some o =>
  have e:=KX a o hk
  rw [ha] at e
  cases e
  refine core (fun _=>ck) (fun _=>.inl rfl) (.inr ⟨_,vs.toArray,_,hk,rfl,rfl,rfl,by rw [uk,lenV]; exact hl,by simpa using rv⟩) (fun b u z=>by have z':(ck:Option HO)=a_ u:=z; cases z') (fun b z=>absurd rfl z) fun z=>absurd rfl z
 | none =>
  refine core (fun b=>if b=a then a_ (.frz { cls:=.type "list",data:=.seq vs.toArray } (.lst (ns.map V.int))) else ck) (fun b=>?_) (.inl (.inr ⟨{ cls:=.type "list",data:=.seq vs.toArray },if_pos rfl⟩)) (fun b u z=>?_) (fun b z=>?_) fun _=>hk
  · by_cases hb:b=a
    · exact .inr ⟨_,_,if_pos hb⟩
    · exact .inl (if_neg hb)
  · by_cases hb:b=a
    · have z':=(if_pos hb).symm.trans z
      cases z'
      subst hb
      exact ⟨ha,by rw [Gb]; exact hl,vs,_,rv,ha⟩
    · have z':=(if_neg hb).symm.trans z
      cases z'
  · by_cases hb:b=a
    · exact hb
    · exact absurd (if_neg hb) z
abbrev KOf {K:c_} {h:FF} (_:K.In h):c_:=K
theorem B7 {l:Jt} {n k:Nat} {q:n_} {loose:List Str} {XP:(Str→Option d_)→FF→Prop} {YP:y_→FF→Prop} {d:DefRec} {K:Je→c_} {CX:y_→CXT} {sp:y_→Sp} {x:Str}
 (hn:l.most=a_ n) (hn2:n≤sizeLine) (hdf:d.params.defaults=[]) (hr:Room k Iy)
 (hY:∀ (w:y_) (h:FF),YP w h→(K w.params).In h)
 (F:∀ (w:y_) (mg:Str→Option d_) (fa:i_) (h:FF),(K w.params).In h→h.Ns rl mg→mg d.name=a_ (.ref fa) →
   ∃ fd:F8,(∀ (s:ge) (u:d_),Ji s fd ⟨[u],[]⟩ [(x,u)]) ∧
    ∀ base:FF,(K w.params).In base→base.Ns rl mg→FnOk l.prog w (K w.params) mg base (CX w) k fa fd [x] (sp w))
 (hsp:∀ (w:y_) (H:Hp) (a:i_) (ns:List Int),ns.length≤n→B6 H→SqL (K w.params) H a (ns.map V.int)→sp w [.ref a] H (fun v _=>v=.bl e_) fun _ _ _=>False)
 (hCX:∀ (w:y_) (H:Hp) (s:ge) (e:d_) (s':ge),CX w [] H s (fun _ _ _=>False) e s'→False) :
 LJ q loose XP YP l.row.toRowW d [] (fun f vs=>LO f vs):=by
 refine Att.attach_call hn hdf fun w s₀ s₁ mg mb fa o pm cd doc a vs ns G Y ho hd hcd hmg hobj hints hlen hg=>?_
 have KX:=hY w _ Y
 obtain ⟨fd,hb,hF⟩:=F w mg fa _ KX G.T.g hmg
 exact r9 KX G.T.g G.T.b G.T.builtins G.T.nolimit hg hobj hints (F6 hlen hn2) hr hF hb (fun H hO hS=>hsp w H a ns hlen hO hS) fun H e s'=>hCX w H s₁ e s'
def gG (s:GT):Arguments:=match s with
 | .FunctionDef _ a _ _ _ _ _ _ _ _=>a
 | _=>{ posonlyargs:=[],args:=[],vararg:=ck,kwonlyargs:=[],kw_defaults:=[],kwarg:=ck,defaults:=[] }
def bA (s:GT):List GT:=match s with
 | .FunctionDef _ _ b _ _ _ _ _ _ _=>b
 | _=>[]
def al (s:GT):GK:=match s with
 | .FunctionDef _ _ _ _ _ _ sc _ _ _=>sc
 | _=>{ kind:=.function,names:=[],isGenerator:=f_,isCoroutine:=f_ }
abbrev CX0:CXT:=fun _ _ _ _ _ _=>False
abbrev E0:XK:=fun _ _ _=>False
theorem yu {X:Cx}:jf CX0 X E0:=fun _ _ _ _ _ _ _ h=>h.elim
structure Fun (K:c_) (x qual:Str) (st:GT) (f:i_) (fd:F8):Prop where
 ex:∃ (oc:d_) (od:Option i_) (kV doc pm:d_) (an:Option i_) (cdv ct:d_) (osl:Array (Option d_)),
  fd=HN x qual (gG st) (bA st) (al st) .none kV doc pm an cdv ct∧K.lookup f=a_ ⟨oc,od,.func fd,osl⟩∧JF K cdv qual=e_
 kp:F4 K (.ref f)=e_
section
variable {P:n_} {w:y_} {K:c_} {mg:Str→Option d_} {base:FF}
theorem Fun.ok {x qual:Str} {st:GT} {f:i_} {fd:F8} {N ps:List Str} {k:Nat} {sp:Sp} (F:Fun K x qual st f fd) (S:cK N ps (al st)) (len:∀ vs H Q E,sp vs H Q E→vs.length=ps.length)
 (hbody:∀ (cdv:d_) (A:w_) (outer:List Env) (s:ge) (H:Hp) (vs:List V) (Q:VK) (E:XK),Room k (A.deeper (Hh qual (al st) s.heap.objs.size f cdv))→sp vs H Q E →
   ∃ t,PSs (iY CX0 P w K mg base N qual (al st) f cdv A outer s H E).nox (bA st) t∧t { nx:=fun _ H'=>Q .non H',rt:=Q } (start N vs) H):FnOk P w K mg base CX0 (k + 1) f fd ps sp:=by
 obtain ⟨oc,od,kV,doc,pm,an,cdv,ct,osl,rfl,lk,hcd⟩:=F.ex
 refine rV lk hcd S len fun A outer s H vs Q E hr hsp=>?_
 obtain ⟨t,h,q⟩:=hbody cdv A outer s H vs Q E hr hsp
 exact ⟨t,h.nox,q⟩
theorem Fun.binds {x qual:Str} {st:GT} {f:i_} {fd:F8} {ps:List Str} (F:Fun K x qual st f fd)
 (h:∀ (kV doc pm:d_) (an:Option i_) (cdv ct:d_) (us:List d_),us.length=ps.length→Lf (HN x qual (gG st) (bA st) (al st) .none kV doc pm an cdv ct) ⟨us,[]⟩=pure (ps.zip us)):Binds K fd ps []:=by
 obtain ⟨oc,od,kV,doc,pm,an,cdv,ct,osl,rfl,lk,hcd⟩:=F.ex
 exact .all (h kV doc pm an cdv ct)
theorem yw {x qual:Str} {st:GT} {f:i_} {oc:d_} {od an:Option i_} {osl:Array (Option d_)} {kV doc pm cdv ct:d_} (l:K.lookup f=a_ ⟨oc,od,.func (HN x qual (gG st) (bA st) (al st) .none kV doc pm an cdv ct),osl⟩)
 (c:JF K cdv qual=e_) (k:F4 K (.ref f)=e_):Fun K x qual st f (HN x qual (gG st) (bA st) (al st) .none kV doc pm an cdv ct):=⟨⟨oc,od,kV,doc,pm,an,cdv,ct,osl,rfl,l,c⟩,k⟩
end
section
variable {X:Cx}
end
theorem vg {A B:Prop} (h:B):if f_=e_ then A else B:=by
 rw [if_neg q_]
 exact h
theorem vh {A B:Prop} (h:A):if e_=e_ then A else B:=by
 rw [if_pos rfl]
 exact h
def Same (H H':Hp):Prop:=∀ b o,H b=a_ o→H' b=a_ o
theorem Same.refl (H:Hp):Same H H:=fun _ _ h=>h
theorem Same.trans {H H1 H2:Hp} (a:Same H H1) (b:Same H1 H2):Same H H2:=fun c o h=>b c o (a c o h)
theorem Same.free {H H':Hp} (e:Same H H') {l:i_} (h:H' l=ck):H l=ck:=by
 cases q:H l with
 | none=>rfl
 | some o =>
  rw [e l o q] at h
  cases h
theorem Same.seq {K:c_} {H H':Hp} {a:i_} {xs:List V} (e:Same H H') (h:SqL K H a xs):SqL K H' a xs:=by
 rcases h with (h | ⟨o,h⟩) | h
 · exact .inl (.inl (e _ _ h))
 · exact .inl (.inr ⟨o,e _ _ h⟩)
 · exact .inr h
end L2
namespace FD
open PySem PySem.Spec PyProof.Rows L2
inductive Dv where
 | non | bl (b:Bool) | int (i:Int) | str (x:Str) | tup (xs:List Dv) | lst (xs:List Dv) | scr (ns:List Int) | exn (c:Nat)
def xnm:Nat→Str
 | 0=>"NoName" | 1=>"NoTable" | 2=>"NoPath" | 3=>"NoAsk" | 4=>"NoNote" | 5=>"NoJar" | 6=>"NoNumber" | 7=>"NoText" | 8=>"NoStep" | _=>"JarError"
mutual
def Rep (K:c_) (H:Hp):Dv→V→Prop
 | .non,v=>v=.non
 | .bl b,v=>v=.bl b
 | .int i,v=>v=.int i
 | .str x,v=>v=.str x
 | .tup ds,v=>∃ a xs,v=.ref a∧H a=a_ (.tup xs)∧Reps K H ds xs
 | .lst ds,v=>∃ a xs,v=.ref a∧H a=a_ (.lst xs)∧Reps K H ds xs
 | .scr ns,v=>∃ a,v=.ref a∧SqL K H a (ns.map V.int)
 | .exn c,v=>∃ a o u C,v=.ref a∧H a=a_ (.frz o u)∧o.cls=.ref C∧GY K rl (xnm c)=a_ (a_ (.ref C))
def Reps (K:c_) (H:Hp):List Dv→List V→Prop
 | [],vs=>vs=[]
 | d :: ds,vs=>∃ v us,vs=v :: us∧Rep K H d v∧Reps K H ds us
end
section
variable {K:c_} {H H':Hp}
mutual
theorem Rep.mono (e:Same H H'):∀ (d:Dv) (v:V),Rep K H d v→Rep K H' d v
 | .non,_,h=>h
 | .bl _,_,h=>h
 | .int _,_,h=>h
 | .str _,_,h=>h
 | .tup ds,v,h=>by
  obtain ⟨a,xs,r,h,q⟩:∃ a xs,v=.ref a∧H a=a_ (.tup xs)∧Reps K H ds xs:=h
  exact ⟨a,xs,r,e _ _ h,Reps.mono e ds xs q⟩
 | .lst ds,v,h=>by
  obtain ⟨a,xs,r,h,q⟩:∃ a xs,v=.ref a∧H a=a_ (.lst xs)∧Reps K H ds xs:=h
  exact ⟨a,xs,r,e _ _ h,Reps.mono e ds xs q⟩
 | .scr ns,v,h=>by
  obtain ⟨a,r,h⟩:∃ a,v=.ref a∧SqL K H a (ns.map V.int):=h
  exact ⟨a,r,e.seq h⟩
 | .exn c,v,h=>by
  obtain ⟨a,o,u,C,r,h,q⟩:∃ a o u C,v=.ref a∧H a=a_ (.frz o u)∧o.cls=.ref C∧GY K rl (xnm c)=a_ (a_ (.ref C)):=h
  exact ⟨a,o,u,C,r,e _ _ h,q⟩
theorem Reps.mono (e:Same H H'):∀ (ds:List Dv) (vs:List V),Reps K H ds vs→Reps K H' ds vs
 | [],_,h=>h
 | d :: ds,vs,h=>by
  obtain ⟨v,us,r,h,q⟩:∃ v us,vs=v :: us∧Rep K H d v∧Reps K H ds us:=h
  exact ⟨v,us,r,Rep.mono e d v h,Reps.mono e ds us q⟩
end
theorem Reps.nil:Reps K H [] []:=rfl
theorem Reps.cons {d ds v vs} (h:Rep K H d v) (t:Reps K H ds vs):Reps K H (d :: ds) (v :: vs):=⟨v,vs,rfl,h,t⟩
theorem Reps.length:∀ {ds:List Dv} {vs:List V},Reps K H ds vs→vs.length=ds.length
 | [],vs,h=>by cases (show vs=[] from h); rfl
 | d :: ds,vs,h=>by
  obtain ⟨v,us,r,_,q⟩:∃ v us,vs=v :: us∧Rep K H d v∧Reps K H ds us:=h
  subst r
  show us.length + 1=ds.length + 1
  rw [Reps.length q]
theorem Reps.get:∀ {ds:List Dv} {vs:List V} {i:Nat} {v:V},Reps K H ds vs→vs[i]?=a_ v→∃ d,ds[i]?=a_ d∧Rep K H d v
 | [],vs,i,v,h,e=>by cases (show vs=[] from h); simp at e
 | d :: ds,vs,i,v,h,e=>by
  obtain ⟨v',us,r,h',q⟩:∃ v us,vs=v :: us∧Rep K H d v∧Reps K H ds us:=h
  subst r
  cases i with
  | zero=>simp at e; subst e; exact ⟨d,rfl,h'⟩
  | succ i =>
   obtain ⟨d',e',r'⟩:=Reps.get (i:=i) q (by simpa using e)
   exact ⟨d',by simpa using e',r'⟩
theorem Reps.get':∀ {ds:List Dv} {vs:List V} {i:Nat} {d:Dv},Reps K H ds vs→ds[i]?=a_ d→∃ v,vs[i]?=a_ v∧Rep K H d v
 | [],vs,i,v,h,e=>by simp at e
 | d :: ds,vs,i,d0,h,e=>by
  obtain ⟨v',us,r,h',q⟩:∃ v us,vs=v :: us∧Rep K H d v∧Reps K H ds us:=h
  subst r
  cases i with
  | zero=>simp at e; subst e; exact ⟨v',rfl,h'⟩
  | succ i =>
   obtain ⟨d',e',r'⟩:=Reps.get' (i:=i) q (by simpa using e)
   exact ⟨d',by simpa using e',r'⟩
theorem Reps.append:∀ {ds es:List Dv} {vs us:List V},Reps K H ds vs→Reps K H es us→Reps K H (ds ++ es) (vs ++ us)
 | [],es,vs,us,h,q=>by cases (show vs=[] from h); exact q
 | d :: ds,es,vs,us,h,q=>by
  obtain ⟨v',vs',r,h',t⟩:∃ v us,vs=v :: us∧Rep K H d v∧Reps K H ds us:=h
  subst r
  exact ⟨v',vs' ++ us,rfl,h',Reps.append t q⟩
theorem Reps.take:∀ {ds:List Dv} {vs:List V} (n:Nat),Reps K H ds vs→Reps K H (ds.take n) (vs.take n)
 | ds,vs,0,_=>by simp [Reps]
 | [],vs,n + 1,h=>by cases (show vs=[] from h); exact rfl
 | d :: ds,vs,n + 1,h=>by
  obtain ⟨v',vs',r,h',t⟩:∃ v us,vs=v :: us∧Rep K H d v∧Reps K H ds us:=h
  subst r
  exact ⟨v',vs'.take n,rfl,h',Reps.take n t⟩
theorem Reps.drop:∀ {ds:List Dv} {vs:List V} (n:Nat),Reps K H ds vs→Reps K H (ds.drop n) (vs.drop n)
 | ds,vs,0,h=>h
 | [],vs,n + 1,h=>by cases (show vs=[] from h); exact rfl
 | d :: ds,vs,n + 1,h=>by
  obtain ⟨v',vs',r,h',t⟩:∃ v us,vs=v :: us∧Rep K H d v∧Reps K H ds us:=h
  subst r
  exact Reps.drop n t
theorem Rep.lstE {ds:List Dv} {v:V} (h:Rep K H (.lst ds) v):∃ a xs,v=.ref a∧H a=a_ (.lst xs)∧Reps K H ds xs:=h
theorem Rep.tupE {ds:List Dv} {v:V} (h:Rep K H (.tup ds) v):∃ a xs,v=.ref a∧H a=a_ (.tup xs)∧Reps K H ds xs:=h
theorem Rep.exnE {c:Nat} {v:V} (h:Rep K H (.exn c) v):∃ a o u C,v=.ref a∧H a=a_ (.frz o u)∧o.cls=.ref C∧GY K rl (xnm c)=a_ (a_ (.ref C)):=h
theorem Rep.scrE {ns:List Int} {v:V} (h:Rep K H (.scr ns) v):∃ a,v=.ref a∧SqL K H a (ns.map V.int):=h
end
theorem aq {H:Hp} {p:i_} (h:H p=ck) (o:HO):Same H (upd H p o):=fun b u q=>by rw [au (av q h)]; exact q
abbrev Ev:=List (Option Dv)
structure Envs (K:c_) (H:Hp) (σ:L2.St) (ρ:Ev):Prop where
 len:σ.length=ρ.length
 at':∀ (i:Nat) (d:Dv),ρ[i]?=a_ (a_ d)→∃ v,σ[i]?=a_ (a_ v)∧Rep K H d v
theorem Envs.mono {K:c_} {H H':Hp} {σ:L2.St} {ρ:Ev} (E:Envs K H σ ρ) (e:Same H H'):Envs K H' σ ρ :=
 ⟨E.len,fun i d h=>let ⟨v,h1,h2⟩:=E.at' i d h; ⟨v,h1,Rep.mono e d v h2⟩⟩
theorem Envs.set {K:c_} {H:Hp} {σ:L2.St} {ρ:Ev} {i:Nat} {d:Dv} {v:V} (E:Envs K H σ ρ) (r:Rep K H d v):Envs K H (σ.set i (a_ v)) (ρ.set i (a_ d)):=by
 refine ⟨by rw [GU,GU]; exact E.len,fun j d' h=>?_⟩
 by_cases hj:i=j
 · subst hj
   by_cases hl:i < ρ.length
   · rw [F7 hl] at h
     cases h
     exact ⟨v,by rw [F7 (by rw [E.len]; exact hl)],r⟩
   · rw [GW (by rw [GU]; omega)] at h
     cases h
 · rw [Gf hj] at h
   rw [Gf hj]
   exact E.at' j d' h
def fgt (js:List Nat) (ρ:Ev):Ev:=js.foldl (fun r j=>r.set j ck) ρ
theorem Envs.fgt1 {K:c_} {H:Hp} {σ:L2.St} {ρ:Ev} (j:Nat) (E:Envs K H σ ρ):Envs K H σ (ρ.set j ck):=by
 refine ⟨by rw [GU]; exact E.len,fun i d h=>?_⟩
 by_cases hj:j=i
 · subst hj
   by_cases hl:j < ρ.length
   · rw [F7 hl] at h
     cases h
   · rw [GW (by rw [GU]; omega)] at h
     cases h
 · rw [Gf hj] at h
   exact E.at' i d h
theorem Envs.fgt {K:c_} {H:Hp} {σ:L2.St}:∀ (js:List Nat) {ρ:Ev},Envs K H σ ρ→Envs K H σ (fgt js ρ)
 | [],_,E=>E
 | j :: js,_,E=>Envs.fgt js (E.fgt1 j)
inductive Rs (α:Type) where
 | ok (a:α)
 | exc (c:Nat)
inductive Fl where
 | nx (ρ:Ev)
 | rt (d:Dv)
 | exc (c:Nat)
def Fly (N:i_→Prop) (H:Hp) (e:i_) (cls:d_) (h:FF):Prop:=H e=ck∧N e∧∃ oe vs a0,h.get? e=a_ oe∧oe.cls=cls∧oe.data=.fields vs∧vs[0]?=a_ a0 ∧
 (vs[1]?=a_ .none∨∃ T oT ts,vs[1]?=a_ (.ref T)∧T≠e∧H T=ck∧N T∧h.get? T=a_ oT∧oT.data=.fields ts∧ts[3]?=a_ .none)
def B8 (X:Cx) (a:i_):Prop:=X.s₀.heap.get? a=ck∧∀ p∈X.pn,p.1≠a
def B9 (X:Cx) (H:Hp) (c:Nat) (e:d_) (s:ge):Prop:=∃ a C,e=.ref a∧GY X.K rl (xnm c)=a_ (a_ (.ref C))∧Fly (B8 X) H a (.ref C) s.heap
def XW (X:Cx) (c:Nat) (H:Hp):Prop:=∀ pins σ H' s e,Same H H'→Inv X pins σ H' s→B9 X H' c e s→X.xe e s
theorem XW.mono {X:Cx} {c:Nat} {H H':Hp} (h:XW X c H) (e:Same H H'):XW X c H':=fun pins σ H1 s x e1 I q=>h pins σ H1 s x (e.trans e1) I q
def Out (X:Cx) (H:Hp) (o:Option (Rs Dv)) (Q:VK):Prop:=match o with
 | none=>False
 | some (.exc c)=>XW X c H
 | some (.ok d)=>∀ v H',Same H H'→Rep X.K H' d v→Q v H'
def OutB (X:Cx) (H:Hp) (o:Option (Rs Bool)) (Q:Bool→Hp→Prop):Prop:=match o with
 | none=>False
 | some (.exc c)=>XW X c H
 | some (.ok d)=>∀ H',Same H H'→Q d H'
def OutA (X:Cx) (H:Hp) (o:Option (Rs (List Dv))) (Q:List V→Hp→Prop):Prop:=match o with
 | none=>False
 | some (.exc c)=>XW X c H
 | some (.ok ds)=>∀ vs H',Same H H'→Reps X.K H' ds vs→Q vs H'
def OutS (X:Cx) (H:Hp) (o:Option Fl) (D:oN):Prop:=match o with
 | none=>False
 | some (.exc c)=>XW X c H
 | some (.rt d)=>∀ v H',Same H H'→Rep X.K H' d v→D.rt v H'
 | some (.nx ρ)=>∀ σ H',Same H H'→Envs X.K H' σ ρ→D.nx σ H'
def bnd {α β:Type} (o:Option (Rs α)) (k:α→Option (Rs β)):Option (Rs β):=match o with
 | none=>ck
 | some (.exc c)=>a_ (.exc c)
 | some (.ok a)=>k a
def cg {α:Type} (o:Option (Rs α)) (k:α→Option Fl):Option Fl:=match o with
 | none=>ck
 | some (.exc c)=>a_ (.exc c)
 | some (.ok a)=>k a
def sq (o:Option Fl) (k:Ev→Option Fl):Option Fl:=match o with
 | some (.nx ρ)=>k ρ
 | o=>o
section
variable {X:Cx} {H H':Hp} {Q:VK} {QB:Bool→Hp→Prop} {QA:List V→Hp→Prop} {D:oN}
theorem Out.mono (e:Same H H'):∀ {o:Option (Rs Dv)},Out X H o Q→Out X H' o Q
 | none,h=>h
 | some (.exc _),h=>XW.mono h e
 | some (.ok _),h=>fun v H1 e1 r=>h v H1 (e.trans e1) r
theorem OutB.mono (e:Same H H'):∀ {o:Option (Rs Bool)},OutB X H o QB→OutB X H' o QB
 | none,h=>h
 | some (.exc _),h=>XW.mono h e
 | some (.ok _),h=>fun H1 e1=>h H1 (e.trans e1)
theorem OutA.mono (e:Same H H'):∀ {o:Option (Rs (List Dv))},OutA X H o QA→OutA X H' o QA
 | none,h=>h
 | some (.exc _),h=>XW.mono h e
 | some (.ok _),h=>fun v H1 e1 r=>h v H1 (e.trans e1) r
theorem OutS.mono (e:Same H H'):∀ {o:Option Fl},OutS X H o D→OutS X H' o D
 | none,h=>h
 | some (.exc _),h=>XW.mono h e
 | some (.rt _),h=>fun v H1 e1 r=>h v H1 (e.trans e1) r
 | some (.nx _),h=>fun v H1 e1 r=>h v H1 (e.trans e1) r
theorem Out.bind {o:Option (Rs Dv)} {k:Dv→Option (Rs Dv)} {P:VK} (h:Out X H (bnd o k) Q) (hp:∀ d v H',Same H H'→Rep X.K H' d v→Out X H' (k d) Q→P v H'):Out X H o P:=by
 match o,h with
 | some (.exc _),h=>exact h
 | some (.ok d),h=>exact fun v H1 e r=>hp d v H1 e r (Out.mono e h)
theorem Out.bindB {o:Option (Rs Dv)} {k:Dv→Option (Rs Bool)} {P:VK} (h:OutB X H (bnd o k) QB) (hp:∀ d v H',Same H H'→Rep X.K H' d v→OutB X H' (k d) QB→P v H'):Out X H o P:=by
 match o,h with
 | some (.exc _),h=>exact h
 | some (.ok d),h=>exact fun v H1 e r=>hp d v H1 e r (OutB.mono e h)
theorem Out.bindA {o:Option (Rs Dv)} {k:Dv→Option (Rs (List Dv))} {P:VK} (h:OutA X H (bnd o k) QA) (hp:∀ d v H',Same H H'→Rep X.K H' d v→OutA X H' (k d) QA→P v H'):Out X H o P:=by
 match o,h with
 | some (.exc _),h=>exact h
 | some (.ok d),h=>exact fun v H1 e r=>hp d v H1 e r (OutA.mono e h)
theorem Out.bindS {o:Option (Rs Dv)} {k:Dv→Option Fl} {P:VK} (h:OutS X H (cg o k) D) (hp:∀ d v H',Same H H'→Rep X.K H' d v→OutS X H' (k d) D→P v H'):Out X H o P:=by
 match o,h with
 | some (.exc _),h=>exact h
 | some (.ok d),h=>exact fun v H1 e r=>hp d v H1 e r (OutS.mono e h)
theorem OutB.bind {o:Option (Rs Bool)} {k:Bool→Option (Rs Dv)} {P:Bool→Hp→Prop} (h:Out X H (bnd o k) Q) (hp:∀ b H',Same H H'→Out X H' (k b) Q→P b H'):OutB X H o P:=by
 match o,h with
 | some (.exc _),h=>exact h
 | some (.ok d),h=>exact fun H1 e=>hp d H1 e (Out.mono e h)
theorem OutB.bindB {o:Option (Rs Bool)} {k:Bool→Option (Rs Bool)} {P:Bool→Hp→Prop} (h:OutB X H (bnd o k) QB) (hp:∀ b H',Same H H'→OutB X H' (k b) QB→P b H'):OutB X H o P:=by
 match o,h with
 | some (.exc _),h=>exact h
 | some (.ok d),h=>exact fun H1 e=>hp d H1 e (OutB.mono e h)
theorem OutB.bindS {o:Option (Rs Bool)} {k:Bool→Option Fl} {P:Bool→Hp→Prop} (h:OutS X H (cg o k) D) (hp:∀ b H',Same H H'→OutS X H' (k b) D→P b H'):OutB X H o P:=by
 match o,h with
 | some (.exc _),h=>exact h
 | some (.ok d),h=>exact fun H1 e=>hp d H1 e (OutS.mono e h)
theorem OutA.bind {o:Option (Rs (List Dv))} {k:List Dv→Option (Rs Dv)} {P:List V→Hp→Prop} (h:Out X H (bnd o k) Q) (hp:∀ ds vs H',Same H H'→Reps X.K H' ds vs→Out X H' (k ds) Q→P vs H'):OutA X H o P:=by
 match o,h with
 | some (.exc _),h=>exact h
 | some (.ok d),h=>exact fun v H1 e r=>hp d v H1 e r (Out.mono e h)
theorem OutA.bindA {o:Option (Rs (List Dv))} {k:List Dv→Option (Rs (List Dv))} {P:List V→Hp→Prop} (h:OutA X H (bnd o k) QA) (hp:∀ ds vs H',Same H H'→Reps X.K H' ds vs→OutA X H' (k ds) QA→P vs H'):OutA X H o P:=by
 match o,h with
 | some (.exc _),h=>exact h
 | some (.ok d),h=>exact fun v H1 e r=>hp d v H1 e r (OutA.mono e h)
end
abbrev FnE:=Ev→Option (Rs Dv)
abbrev FnB:=Ev→Option (Rs Bool)
abbrev FnA:=Ev→Option (Rs (List Dv))
abbrev FnS:=Ev→Option Fl
def tF (X:Cx) (f:FnE):TE:=fun σ H Q=>∃ ρ,Envs X.K H σ ρ∧Out X H (f ρ) Q
def tT (X:Cx) (f:FnB):TT:=fun σ H Q=>∃ ρ,Envs X.K H σ ρ∧OutB X H (f ρ) Q
def tA (X:Cx) (f:FnA):TA:=fun σ H Q=>∃ ρ,Envs X.K H σ ρ∧OutA X H (f ρ) Q
def tS (X:Cx) (f:FnS):TS:=fun D σ H=>∃ ρ,Envs X.K H σ ρ∧OutS X H (f ρ) D
structure FE (X:Cx) (e:C_) (f:FnE):Prop where
 h:PE X e (tF X f)
structure FT (X:Cx) (e:C_) (f:FnB):Prop where
 h:PT X e (tT X f)
structure FW (X:Cx) (e:C_) (f:FnB):Prop where
 h:PW X e (tT X f)
structure FA (X:Cx) (es:List C_) (f:FnA):Prop where
 h:PA X es (tA X f)
structure FS (X:Cx) (st:GT) (f:FnS):Prop where
 h:PS X st (tS X f)
structure FSs (X:Cx) (st:List GT) (f:FnS):Prop where
 h:PSs X st (tS X f)
section
variable {X:Cx} {a b c e:C_} {es:List C_} {fa fb fc:FnE} {pos:Pos}
theorem cA {t:TE} {f:FnE} (h:PE X e t) (w:∀ σ H Q ρ,Envs X.K H σ ρ→Out X H (f ρ) Q→t σ H Q):FE X e f :=
 ⟨fun pins s σ H Q I ⟨ρ,E,o⟩=>h pins s σ H Q I (w σ H Q ρ E o)⟩
theorem vi {t:TT} {f:FnB} (h:PT X e t) (w:∀ σ H Q ρ,Envs X.K H σ ρ→OutB X H (f ρ) Q→t σ H Q):FT X e f :=
 ⟨fun pins s σ H Q I ⟨ρ,E,o⟩=>h pins s σ H Q I (w σ H Q ρ E o)⟩
theorem yx {t:TT} {f:FnB} (h:PW X e t) (w:∀ σ H Q ρ,Envs X.K H σ ρ→OutB X H (f ρ) Q→t σ H Q):FW X e f :=
 ⟨fun wh pins s σ H Q I ⟨ρ,E,o⟩=>h wh pins s σ H Q I (w σ H Q ρ E o)⟩
theorem pD {st:GT} {t:TS} {f:FnS} (h:PS X st t) (w:∀ D σ H ρ,Envs X.K H σ ρ→OutS X H (f ρ) D→t D σ H):FS X st f :=
 ⟨fun pins s σ H D I ⟨ρ,E,o⟩=>h pins s σ H D I (w D σ H ρ E o)⟩
theorem uj {st:List GT} {t:TS} {f:FnS} (h:PSs X st t) (w:∀ D σ H ρ,Envs X.K H σ ρ→OutS X H (f ρ) D→t D σ H):FSs X st f :=
 ⟨fun pins s σ H D I ⟨ρ,E,o⟩=>h pins s σ H D I (w D σ H ρ E o)⟩
theorem FW.ft {f:FnB} (h:FW X e f):FT X e f:=⟨h.h _⟩
def ac (i:Nat):FnE:=fun ρ=>match ρ[i]? with
 | some (a_ d)=>a_ (.ok d)
 | _=>ck
def fC (d:Dv):FnE:=fun _=>a_ (.ok d)
theorem yy (i:Nat) (h:PE X e (xU i)):FE X e (ac i):=cA h fun σ H Q ρ E o=>by
 unfold ac at o
 split at o
 · rename_i d hd
   obtain ⟨v,h1,h2⟩:=E.at' i d hd
   exact ⟨v,h1,o v H (.refl H) h2⟩
 · exact o.elim
theorem glb {x:Str} (h:X.env.kindOf x=a_ .globalImplicit):Gl X x:=h
theorem Ca (i:Nat) {x:Str} (hN:X.N[i]?=a_ x:=by kernel_rfl) (hv:X.env.scope.names.lookup x=a_ .local:=by kernel_rfl) (hd:(x == ("__debug__":Str))=f_:=by kernel_rfl) (hcd:(x == ("__classdict__":Str))=f_:=by kernel_rfl):FE X (.Name x pos) (ac i):=yy i (oV hN (.inl hv) hd hcd)
theorem Cb (i:Nat) {x:Str} (hN:X.N[i]?=a_ x:=by kernel_rfl) (hv:X.env.scope.names.lookup x=a_ .cell:=by kernel_rfl) (hd:(x == ("__debug__":Str))=f_:=by kernel_rfl) (hcd:(x == ("__classdict__":Str))=f_:=by kernel_rfl):FE X (.Name x pos) (ac i):=yy i (oV hN (.inr (.inl hv)) hd hcd)
theorem xA {d:Dv} {v:V} (h:PE X e (tC v)) (r:∀ K H,Rep K H d v):FE X e (fC d):=cA h fun _ H _ _ _ o=>o v H (.refl H) (r X.K H)
theorem ul {i j}:FE X (.Constant (.int i) j pos) (fC (.int i)):=xA xV fun _ _=>rfl
theorem Cc {b j}:FE X (.Constant (.bool b) j pos) (fC (.bl b)):=xA BJ fun _ _=>rfl
theorem yz {j}:FE X (.Constant .none j pos) (fC .non):=xA xW fun _ _=>rfl
theorem yA {x j}:FE X (.Constant (.str x) j pos) (fC (.str x)):=xA xX fun _ _=>rfl
theorem vj {x:Str} {i:Int} {t:Tok} (hg:Gl X x) (hm:X.mg x=a_ (.int i t)) (hd:(x == ("__debug__":Str))=f_:=by kernel_rfl):FE X (.Name x pos) (fC (.int i)):=xA (gE (v:=.int i) hg hm ⟨t,rfl⟩ hd) fun _ _=>rfl
theorem vk {x:Str} {i:Str} {t:Tok} (hg:Gl X x) (hm:X.mg x=a_ (.str i t)) (hd:(x == ("__debug__":Str))=f_:=by kernel_rfl):FE X (.Name x pos) (fC (.str i)):=xA (gE (v:=.str i) hg hm ⟨t,rfl⟩ hd) fun _ _=>rfl
def f2 (g:Dv→Dv→Option (Rs Dv)) (fa fb:FnE):FnE:=fun ρ=>bnd (fa ρ) fun x=>bnd (fb ρ) fun y=>g x y
def GOp (X:Cx) (r:R2) (g:Dv→Dv→Option (Rs Dv)):Prop:=∀ dx dy x y H Q,Rep X.K H dx x→Rep X.K H dy y→Out X H (g dx dy) Q→r x y H Q
theorem two {r:R2} {g:Dv→Dv→Option (Rs Dv)} (hg:GOp X r g) {σ:L2.St} {H:Hp} {Q:VK} {ρ:Ev} (E:Envs X.K H σ ρ) (o:Out X H (f2 g fa fb ρ) Q):tOp r (tF X fa) (tF X fb) σ H Q :=
 ⟨ρ,E,Out.bind o fun dx x H1 e1 rx o1=>⟨ρ,E.mono e1,Out.bind o1 fun dy y H2 e2 ry o2=>hg dx dy x y H2 Q (Rep.mono e2 dx x rx) ry o2⟩⟩
theorem lL {op:Operator} {r:R2} {g:Dv→Dv→Option (Rs Dv)} (ho:OpR X (GV op) r) (hg:GOp X r g) (ha:FE X a fa) (hb:FE X b fb):FE X (.BinOp a op b pos) (f2 g fa fb) :=
 cA (BV ho ha.h hb.h) fun _ _ _ _ E o=>two hg E o
theorem iw {op:CmpOp} {r:R2} {g:Dv→Dv→Option (Rs Dv)} (ho:OpR X (F9 op) r) (hg:GOp X r g) (ha:FE X a fa) (hb:FE X b fb) (hm:FL op b=f_):FE X (.Compare a [op] [b] pos) (f2 g fa fb) :=
 cA (uX ho ha.h hb.h hm) fun _ _ _ _ E o=>two hg E o
def toB:Dv→Option (Rs Bool)
 | .bl b=>a_ (.ok b)
 | _=>ck
def fB (f:FnE):FnB:=fun ρ=>bnd (f ρ) toB
theorem mP {H:Hp} {d:Dv} {v:V} {QB:Bool→Hp→Prop} (r:Rep X.K H d v) (o:OutB X H (toB d) QB):∃ k,v=.bl k∧QB k H:=by
 cases d with
 | bl b=>exact ⟨b,r,o H (.refl H)⟩
 | _=>exact o.elim
theorem fF {op:CmpOp} {r:R2} {g:Dv→Dv→Option (Rs Dv)} (ho:OpR X (F9 op) r) (hg:GOp X r g) (ha:FE X a fa) (hb:FE X b fb) (hm:FL op b=f_):FT X (.Compare a [op] [b] pos) (fB (f2 g fa fb)) :=
 vi (uY ho ha.h hb.h hm) fun σ H Q ρ E o=>by
  show tOp r (tF X fa) (tF X fb) σ H _
  refine two hg E ?_
  exact Out.bindB o fun d v H' e r o'=>mP r o'
theorem yB (ha:FE X a fa) (he:∀ whole,isTrue a X.env whole=(do let v ← whole; standAt a.pos; holding [v] (truthy v)):=by intro _; kernel_rfl):FT X a (fB fa) :=
 vi (xY ha.h he) fun σ H Q ρ E o=>⟨ρ,E,Out.bindB o fun d v H' e r o'=>mP r o'⟩
def fG (f g:FnB):FnB:=fun ρ=>bnd (f ρ) fun k=>if k then g ρ else a_ (.ok f_)
def bOr (f g:FnB):FnB:=fun ρ=>bnd (f ρ) fun k=>if k then a_ (.ok e_) else g ρ
def bL (f:FnB):FnB:=fun ρ=>bnd (f ρ) fun k=>a_ (.ok (!k))
variable {ga gb:FnB} {rest:List C_}
theorem vm (ha:FT X a ga):FW X (.BoolOp .And [a] pos) ga:=⟨uU ha.h⟩
theorem yC (ha:FT X a ga):FW X (.BoolOp .Or [a] pos) ga:=⟨xZ ha.h⟩
theorem um (ha:FT X a ga) (hb:FW X (.BoolOp .And (b :: rest) pos) gb):FW X (.BoolOp .And (a :: b :: rest) pos) (fG ga gb) :=
 yx (ya ha.h hb.h) fun σ H Q ρ E o=>⟨ρ,E,OutB.bindB o fun k H1 e o'=>by
  cases k with
  | true=>exact vh ⟨ρ,E.mono e,o'⟩
  | false=>exact vg (o' H1 (.refl H1))⟩
theorem yD (ha:FT X a ga) (hb:FW X (.BoolOp .Or (b :: rest) pos) gb):FW X (.BoolOp .Or (a :: b :: rest) pos) (bOr ga gb) :=
 yx (BK ha.h hb.h) fun σ H Q ρ E o=>⟨ρ,E,OutB.bindB o fun k H1 e o'=>by
  cases k with
  | true=>exact vh (o' H1 (.refl H1))
  | false=>exact vg ⟨ρ,E.mono e,o'⟩⟩
theorem yE (ha:FT X a ga):FT X (.UnaryOp .Not a pos) (bL ga) :=
 vi (yb ha.h) fun σ H Q ρ E o=>⟨ρ,E,OutB.bindB o fun k H1 e o'=>o' H1 (.refl H1)⟩
def dt (f g:FnE):FnE:=fun ρ=>bnd (f ρ) fun x=>bnd (toB x) fun k=>if k then g ρ else a_ (.ok (.bl f_))
def vOr (f g:FnE):FnE:=fun ρ=>bnd (f ρ) fun x=>bnd (toB x) fun k=>if k then a_ (.ok (.bl e_)) else g ρ
def iy (f:FnE):FnE:=fun ρ=>bnd (f ρ) fun x=>bnd (toB x) fun k=>a_ (.ok (.bl (!k)))
theorem lM {H:Hp} {d:Dv} {v:V} {k:Bool→Option (Rs Dv)} {Q:VK} (r:Rep X.K H d v) (o:Out X H (bnd (toB d) k) Q):∃ b,v=.bl b∧Out X H (k b) Q:=by
 cases d with
 | bl b=>exact ⟨b,r,o⟩
 | _=>exact o.elim
theorem yF {op} (ha:FE X a fa):FE X (.BoolOp op [a] pos) fa:=⟨yc ha.h⟩
theorem yG (ha:FE X a fa) (hb:FE X (.BoolOp .And (b :: rest) pos) fb):FE X (.BoolOp .And (a :: b :: rest) pos) (dt fa fb) :=
 cA (yd ha.h hb.h) fun σ H Q ρ E o=>⟨ρ,E,Out.bind o fun d v H1 e r o'=>by
  obtain ⟨k,rfl,o2⟩:=lM r o'
  refine ⟨k,rfl,?_⟩
  cases k with
  | true=>exact vh ⟨ρ,E.mono e,o2⟩
  | false=>exact vg (o2 (.bl f_) H1 (.refl H1) rfl)⟩
theorem Cd (ha:FE X a fa) (hb:FE X (.BoolOp .Or (b :: rest) pos) fb):FE X (.BoolOp .Or (a :: b :: rest) pos) (vOr fa fb) :=
 cA (BN ha.h hb.h) fun σ H Q ρ E o=>⟨ρ,E,Out.bind o fun d v H1 e r o'=>by
  obtain ⟨k,rfl,o2⟩:=lM r o'
  refine ⟨k,rfl,?_⟩
  cases k with
  | true=>exact vh (o2 (.bl e_) H1 (.refl H1) rfl)
  | false=>exact vg ⟨ρ,E.mono e,o2⟩⟩
theorem yH (ha:FE X a fa):FE X (.UnaryOp .Not a pos) (iy fa) :=
 cA (ye ha.h) fun σ H Q ρ E o=>⟨ρ,E,Out.bind o fun d v H1 e r o'=>by
  obtain ⟨k,rfl,o2⟩:=lM r o'
  exact ⟨k,rfl,o2 (.bl (!k)) H1 (.refl H1) rfl⟩⟩
def fIf (c:FnB) (f g:FnE):FnE:=fun ρ=>bnd (c ρ) fun k=>if k then f ρ else g ρ
theorem Ce (hc:FT X c ga) (ha:FE X a fa) (hb:FE X b fb):FE X (.IfExp c a b pos) (fIf ga fa fb) :=
 cA (rQ hc.h ha.h hb.h) fun σ H Q ρ E o=>⟨ρ,E,OutB.bind o fun k H1 e o'=>by
  cases k with
  | true=>exact vh ⟨ρ,E.mono e,o'⟩
  | false=>exact vg ⟨ρ,E.mono e,o'⟩⟩
def ah:FnA:=fun _=>a_ (.ok [])
def aa (f:FnE) (g:FnA):FnA:=fun ρ=>bnd (f ρ) fun x=>bnd (g ρ) fun xs=>a_ (.ok (x :: xs))
theorem yI {t:TA} {f:FnA} (h:PA X es t) (w:∀ σ H Q ρ,Envs X.K H σ ρ→OutA X H (f ρ) Q→t σ H Q):FA X es f :=
 ⟨fun pos pins s σ H Q I ⟨ρ,E,o⟩=>h pos pins s σ H Q I (w σ H Q ρ E o)⟩
theorem pE:FA X [] ah:=yI kg fun _ H _ _ _ o=>o [] H (.refl H) rfl
theorem lN {g:FnA} (ha:FE X e fa) (hr:FA X es g) (hs:h_ (e :: es) X.env=(f_,eval e X.env) :: h_ es X.env:=by kernel_rfl):FA X (e :: es) (aa fa g) :=
 yI (df ha.h hr.h hs) fun σ H Q ρ E o=>⟨ρ,E,Out.bindA o fun d v H1 e r o1=>⟨ρ,E.mono e,OutA.bindA o1 fun ds vs H2 e2 rs o2=>o2 (v :: vs) H2 (.refl H2) ⟨v,vs,rfl,Rep.mono e2 d v r,rs⟩⟩⟩
def bW (g:FnA):FnE:=fun ρ=>bnd (g ρ) fun ds=>if ds.length≤100000 then a_ (.ok (.lst ds)) else ck
def ci (g:FnA):FnE:=fun ρ=>bnd (g ρ) fun ds=>if ds.length≤100000 then a_ (.ok (.tup ds)) else ck
theorem bG {n:Nat} (h:n≤100000):n≤sizeLine:=F6 h (by rw [Jl]; decide)
theorem yJ {g:FnA} (h:FA X es g):FE X (.List es pos) (bW g) :=
 cA (pp h.h) fun σ H Q ρ E o=>⟨ρ,E,OutA.bind o fun ds vs H1 e rs o1=>by
  split at o1
  · rename_i hl
    refine ⟨by rw [rs.length]; exact bG hl,fun p hp=>o1 (.ref p) _ (aq hp _) ⟨p,vs,rfl,ao,Reps.mono (aq hp _) _ _ rs⟩⟩
  · exact o1.elim⟩
theorem yK {g:FnA} {k} (h:FA X es g):FE X (.Tuple es k pos) (ci g) :=
 cA (yk h.h) fun σ H Q ρ E o=>⟨ρ,E,OutA.bind o fun ds vs H1 e rs o1=>by
  split at o1
  · rename_i hl
    refine ⟨by rw [rs.length]; exact bG hl,fun p hp=>o1 (.ref p) _ (aq hp _) ⟨p,vs,rfl,ao,Reps.mono (aq hp _) _ _ rs⟩⟩
  · exact o1.elim⟩
variable {st:GT} {sts:List GT} {f g:FnS}
theorem vn:FSs X [] (fun ρ=>a_ (.nx ρ)):=uj oX fun D σ H ρ E o=>o σ H (.refl H) E
def aD (f g:FnS):FnS:=fun ρ=>sq (f ρ) g
theorem sd (h1:FS X st f) (h2:FSs X sts g):FSs X (st :: sts) (aD f g) :=
 uj (jE h1.h h2.h) fun D σ H ρ E o=>⟨ρ,E,by
  unfold aD at o
  match hf:f ρ with
  | none=>rw [hf] at o; exact o.elim
  | some (.exc c)=>rw [hf] at o; exact o
  | some (.rt d)=>rw [hf] at o; exact o
  | some (.nx ρ')=>rw [hf] at o; exact fun σ' H' e E'=>⟨ρ',E',OutS.mono e o⟩⟩
theorem lO (h1:FS X st f):FSs X [st] f:=⟨oY h1.h⟩
def aC (f:FnE):FnS:=fun ρ=>cg (f ρ) fun d=>a_ (.rt d)
theorem pF (he:FE X e fa):FS X (.Return (a_ e) pos) (aC fa) :=
 pD (ud he.h) fun D σ H ρ E o=>⟨ρ,E,Out.bindS o fun d v H1 e r o1=>o1 v H1 (.refl H1) r⟩
def dI:FnS:=fun _=>a_ (.rt .non)
def bq (f:FnE):FnS:=fun ρ=>cg (f ρ) fun _=>a_ (.nx ρ)
theorem vo (he:FE X e fa) (hs:G7 e ck pos.line X.env=pure f_:=by kernel_rfl):FS X (.Expr e pos) (bq fa) :=
 pD (oZ he.h hs) fun D σ H ρ E o=>⟨ρ,E,Out.bindS o fun d v H1 e r o1=>o1 σ H1 (.refl H1) (E.mono e)⟩
def br (i:Nat) (f:FnE):FnS:=fun ρ=>cg (f ρ) fun d=>a_ (.nx (ρ.set i (a_ d)))
theorem yL (i:Nat) {x:Str} {pos':Pos} (hN:X.N.Nodup) (hi:X.N[i]?=a_ x) (hx:Loc X.env.scope x) (he:FE X e fa) (hs:G7 e (a_ (.Name x pos')) pos.line X.env=pure f_:=by kernel_rfl) (hf:X.fn x=e_∨X.env.scope.names.lookup x=a_ .local:=by first | exact .inl rfl | exact .inr rfl | assumption) :
 FS X (.Assign [.Name x pos'] e pos) (br i fa) :=
 pD (o5 hN hi hx he.h hs hf) fun D σ H ρ E o=>⟨ρ,E,Out.bindS o fun d v H1 e r o1=>o1 _ H1 (.refl H1) ((E.mono e).set r)⟩
def aX (c:FnB) (f g:FnS):FnS:=fun ρ=>cg (c ρ) fun k=>if k then f ρ else g ρ
theorem Cf {as bs:List GT} (hc:FT X c ga) (ha:FSs X as f) (hb:FSs X bs g):FS X (.If c as bs pos) (aX ga f g) :=
 pD (yf hc.h ha.h hb.h) fun D σ H ρ E o=>⟨ρ,E,OutB.bindS o fun k H1 e o1=>by
  cases k with
  | true=>exact vh ⟨ρ,E.mono e,o1⟩
  | false=>exact vg ⟨ρ,E.mono e,o1⟩⟩
def cj:FnS:=fun _=>ck
end
def Its (z:Str):It:=⟨fun i _=>i < z.cps.size,fun i H x H'=>H'=H∧∃ c,z.cps[i]?=a_ c∧x=.str ⟨#[c]⟩,fun i _=>i=z.cps.size⟩
theorem kv {prog:n_} {w:y_} {A:w_} (hh:A.handled=ck) (I:i_) (x:Str) (t:Tok) {ty:String} (hty:ty="str_ascii_iterator"∨ty="str_iterator") :
 Walks prog w A I [I] [I] x.cps.size (SignAt x) (fun i h=>h.IsStrIter I ty x t i):=by
 rcases hty with rfl | rfl
 · exact Walks.strAscii hh I x t
 · exact Walks.strWide hh I x t
theorem se {P:n_} {w:y_} {K:c_} {tg:C_} (z:Str) (t:Tok) (it:i_) {ty:String} (hty:ty="str_ascii_iterator"∨ty="str_iterator"):ue P w K tg (Its z) [it] it (fun i h=>h.IsStrIter it ty z t i) where
 mem:=by simp
 obj:=fun i h st b hb=>by
  have e:b=it:=by simpa using hb
  subst e
  obtain ⟨o,e,c,d⟩:=st
  exact ⟨o,e,fun v z=>by rw [d] at z; cases z⟩
 keep:=fun i h h' st k=>let ⟨o,ho,r⟩:=st; ⟨o,k it (by simp) o ho,r⟩
 item:=by
  intro X hP hw hK hc i pins s σ H E I hf st hg
  subst hP hw hK
  obtain ⟨f0,f1,f2,f3,f4,f5⟩:=hf it (by simp)
  have W:=kv (prog:=X.prog) (w:=X.w) (I.ok.hd hc) it z t hty
  refine W.item i s _ _ hg st fun v h' tk hv st' kk=>?_
  obtain ⟨c,u,hc',rfl⟩:=hv
  have I1:Inv X pins σ H { s with heap:=h',toks:=tk }:=I.turned (fun b o hb e=>kk b o (by simpa using hb) e) f0 f1 f3 f4 f5
  obtain ⟨o,e,c',d⟩:=id st'
  refine ⟨_,rfl,kf (s:={ s with heap:=h',toks:=tk }) e c' d (by rcases hty with rfl | rfl <;> decide) ⟨.str ⟨#[c]⟩,H,I1,⟨u,rfl⟩,⟨rfl,c,hc',rfl⟩,st',fun b hb=>(hf b hb).1⟩⟩
 done:=by
  intro X hP hw hK hc i pins s σ H E I hf st hg
  subst hP hw hK
  obtain ⟨f0,f1,f2,f3,f4,f5⟩:=hf it (by simp)
  have W:=kv (prog:=X.prog) (w:=X.w) (I.ok.hd hc) it z t hty
  have hg':i=z.cps.size:=hg
  subst hg'
  exact W.done s _ _ st fun h' tk kk=>⟨rfl,I.turned (fun b o hb e=>kk b o (by simpa using hb) e) f0 f1 f3 f4 f5⟩
 self:=fun A i s Q E st h=>by
  rcases hty with rfl | rfl
  · exact wpAny_pyIter_striter_ascii st h
  · exact wpAny_pyIter_striter_wide st h
structure Wk (K:c_) (J:It) (ds:List Dv) (H0:Hp):Prop where
 go:∀ i H,Same H0 H→i < ds.length→J.go i H
 stop:∀ H,Same H0 H→J.stop ds.length H
 yld:∀ i H x H',Same H0 H→i < ds.length→J.yld i H x H'→H'=H∧∃ d,ds[i]?=a_ d∧Rep K H d x
def OutI (X:Cx) (H:Hp) (o:Option (Rs (List Dv))) (R:It→Hp→Prop):Prop:=match o with
 | none=>False
 | some (.exc c)=>XW X c H
 | some (.ok ds)=>∀ J H',Same H H'→Wk X.K J ds H'→R J H'
structure FI (X:Cx) (tg iter:C_) (f:FnA):Prop where
 h:PI X tg iter fun σ H R=>∃ ρ,Envs X.K H σ ρ∧OutI X H (f ρ) R
theorem OutI.mono {X:Cx} {H H':Hp} {R:It→Hp→Prop} (e:Same H H'):∀ {o:Option (Rs (List Dv))},OutI X H o R→OutI X H' o R
 | none,h=>h
 | some (.exc _),h=>XW.mono h e
 | some (.ok _),h=>fun v H1 e1 r=>h v H1 (e.trans e1) r
def signs (z:Str):List Dv:=z.cps.toList.map fun c=>.str ⟨#[c]⟩
def items:Dv→Option (Rs (List Dv))
 | .lst ds=>a_ (.ok ds)
 | .tup ds=>a_ (.ok ds)
 | .str z=>a_ (.ok (signs z))
 | _=>ck
def cF (f:FnE):FnA:=fun ρ=>bnd (f ρ) items
theorem vp {K:c_} {H:Hp} {a:i_} {xs:List V} {ds:List Dv} (h:H a=a_ (.lst xs)) (r:Reps K H ds xs):Wk K (Itl K a) ds H where
 go:=fun i H' e hi=>by
  have hx:i < xs.length:=by rw [r.length]; exact hi
  exact ⟨xs,xs[i],SqL.of (e _ _ h),by simp [hx]⟩
 stop:=fun H' e=>⟨xs,SqL.of (e _ _ h),by rw [r.length]; exact m_ _⟩
 yld:=fun i H' x H2 e hi y=>by
  obtain ⟨e2,y⟩:=y
  obtain ⟨d,h1,h2⟩:=Reps.get (Reps.mono e _ _ r) (y xs (SqL.of (e _ _ h)))
  exact ⟨e2,d,h1,h2⟩
theorem yM {K:c_} {H:Hp} {a:i_} {xs:List V} {ds:List Dv} (h:H a=a_ (.tup xs)) (r:Reps K H ds xs):Wk K (Itt K a) ds H where
 go:=fun i H' e hi=>by
  have hx:i < xs.length:=by rw [r.length]; exact hi
  exact ⟨xs,xs[i],SqT.of (e _ _ h),by simp [hx]⟩
 stop:=fun H' e=>⟨xs,SqT.of (e _ _ h),by rw [r.length]; exact m_ _⟩
 yld:=fun i H' x H2 e hi y=>by
  obtain ⟨e2,y⟩:=y
  obtain ⟨d,h1,h2⟩:=Reps.get (Reps.mono e _ _ r) (y xs (SqT.of (e _ _ h)))
  exact ⟨e2,d,h1,h2⟩
theorem yN {K:c_} {H:Hp} {z:Str}:Wk K (Its z) (signs z) H where
 go:=fun i H' e hi=>by show i < z.cps.size; simpa [signs] using hi
 stop:=fun H' e=>by show (signs z).length=z.cps.size; simp [signs]
 yld:=fun i H' x H2 e hi y=>by
  obtain ⟨e2,c,hc,rfl⟩:=y
  refine ⟨e2,.str ⟨#[c]⟩,?_,rfl⟩
  have hc':z.cps.toList[i]?=a_ c:=by simpa using hc
  rw [signs,FY,hc'] <;> rfl
def rng (lo:Int):Nat→List Dv
 | 0=>[]
 | n + 1=>.int lo :: rng (lo + 1) n
theorem fj:∀ (n:Nat) (lo:Int),(rng lo n).length=n
 | 0,_=>rfl
 | n + 1,lo=>by show (rng (lo + 1) n).length + 1=n + 1; rw [fj]
theorem pG:∀ (n:Nat) (lo:Int) (i:Nat),i < n→(rng lo n)[i]?=a_ (.int (lo + i))
 | 0,_,_,h=>by omega
 | n + 1,lo,0,_=>by simp [rng]
 | n + 1,lo,i + 1,h=>by
  have q:=pG n (lo + 1) i (by omega)
  show (Dv.int lo :: rng (lo + 1) n)[i + 1]?=_
  rw [IL,q]
  congr 2
  omega
theorem mQ {K:c_} {H:Hp} {lo:Int} {n:Nat}:Wk K (Itr lo n) (rng lo n) H where
 go:=fun i H' e hi=>by rw [fj] at hi; exact hi
 stop:=fun H' e=>by show n≤(rng lo n).length; rw [fj]; exact m_ _
 yld:=fun i H' x H2 e hi y=>by
  obtain ⟨e2,rfl⟩:=y
  rw [fj] at hi
  exact ⟨e2,_,pG n lo i hi,rfl⟩
section
variable {X:Cx} {tg l a b:C_} {fl:FnE} {pos p:Pos}
theorem yO (hl:FE X l fl):FI X tg l (cF fl):=by
 constructor
 intro pins s σ H R I h
 obtain ⟨ρ,E,o⟩:=h
 have key:Out X H (fl ρ) fun x H1=>∃ d,Rep X.K H1 d x∧OutI X H1 (items d) R:=by
  unfold cF at o
  match hf:fl ρ,o with
  | some (.exc c),o=>exact o
  | some (.ok d),o=>exact fun v H1 e r=>⟨d,r,OutI.mono e o⟩
  | none,o=>exact o
 refine thn (hl.h pins s σ H _ I ⟨ρ,E,key⟩) fun v s1 ⟨x,H1,I1,r1,d,rd,q⟩=>?_
 have fin:∀ (o:Obj) (tn:Nat→FF→Prop) (J:It) (ds:List Dv),ue X.prog X.w X.K tg J [s1.heap.objs.size] s1.heap.objs.size tn→tn 0 (s1.heap.push o)→Wk X.K J ds H1→(∀ J H',Same H1 H'→Wk X.K J ds H'→R J H') →
  PIE X pins σ tg R (.ref s1.heap.objs.size) { s1 with heap:=s1.heap.push o }:=fun o tn J ds T t0 w q=>by
  refine ⟨s1.heap.objs.size,[s1.heap.objs.size],tn,J,H1,rfl,I1.kept (t':=s1.toks) fun b o e=>k_ _ e,T,t0,fun b hb=>?_,q J H1 (.refl H1) w⟩
  have e:b=s1.heap.objs.size:=by simpa using hb
  subst e
  exact I1.fpOk (m_ _) (I1.hok.fresh (m_ _))
 cases d with
 | lst ds =>
  obtain ⟨a,xs,rfl,h1,h2⟩:=rd.lstE
  cases r1
  obtain ⟨its,rv,p,hz⟩:=I1.list (SqL.of h1)
  exact JZ p.isList (fin _ _ (Itl X.K a) ds (o6 a _) ⟨_,z_ _ rfl,rfl,rfl⟩ (vp h1 h2) q)
 | tup ds =>
  obtain ⟨a,xs,rfl,h1,h2⟩:=rd.tupE
  cases r1
  obtain ⟨its,rv,p,hz⟩:=I1.tuple (SqT.of h1)
  exact wpAny_pyIter_tuple (show s1.heap.IsTuple a its.toArray from p) (fin _ _ (Itt X.K a) ds (nR a _) ⟨_,z_ _ rfl,rfl,rfl⟩ (yM h1 h2) q)
 | str z =>
  cases (show x=.str z from rd)
  obtain ⟨t,rfl⟩:=r1
  have hty:MF z="str_ascii_iterator"∨MF z="str_iterator":=by
   unfold MF
   split
   · exact .inl rfl
   · exact .inr rfl
  exact wpAny_pyIter_strU (fin _ _ (Its z) (signs z) (se z t _ hty) ⟨_,z_ _ rfl,rfl,rfl⟩ yN q)
 | _=>exact q.elim
def iz:List Dv→Option (Rs (List Dv))
 | [.int j]=>if -(2 ^ 62)≤j∧j < 2 ^ 62 then a_ (.ok (rng 0 j.toNat)) else ck
 | _=>ck
def rM:List Dv→Option (Rs (List Dv))
 | [.int i,.int j]=>if -(2 ^ 62)≤i∧i < 2 ^ 62∧-(2 ^ 62)≤j∧j < 2 ^ 62 then a_ (.ok (rng i (j - i).toNat)) else ck
 | _=>ck
theorem jh {H:Hp} {R:It→Hp→Prop} {o:Option (Rs (List Dv))} {k:List Dv→Option (Rs (List Dv))} {P:List V→Hp→Prop} (h:OutI X H (bnd o k) R) (hp:∀ ds vs H',Same H H'→Reps X.K H' ds vs→OutI X H' (k ds) R→P vs H'):OutA X H o P:=by
 match o,h with
 | some (.exc _),h=>exact h
 | some (.ok d),h=>exact fun v H1 e r=>hp d v H1 e r (OutI.mono e h)
theorem pH {ga:FnA} (hg:Gl X "range") (hm:X.mg "range"=ck) (ha:FA X [a] ga) (hs:h_ [a] X.env=[(f_,eval a X.env)]:=by kernel_rfl):FI X tg (.Call (.Name "range" p) [a] [] pos) (fun ρ=>bnd (ga ρ) iz):=by
 constructor
 intro pins s σ H R I h
 obtain ⟨ρ,E,o⟩:=h
 refine o7 hg hm ha.h hs pins s σ H R I ⟨ρ,E,jh o fun ds vs H' e rs o1=>?_⟩
 unfold iz at o1
 split at o1
 · rename_i j
   split at o1
   · rename_i hj
     obtain ⟨v,us,rfl,r,t⟩:∃ v us,vs=v :: us∧Rep X.K H' (.int j) v∧Reps X.K H' [] us:=rs
     cases (show us=[] from t)
     cases (show v=.int j from r)
     exact ⟨j,rfl,hj.1,hj.2,o1 _ H' (.refl H') mQ⟩
   · exact o1.elim
 · exact o1.elim
theorem pI {ga:FnA} (hg:Gl X "range") (hm:X.mg "range"=ck) (ha:FA X [a,b] ga) (hs:h_ [a,b] X.env=[(f_,eval a X.env),(f_,eval b X.env)]:=by kernel_rfl) (hs2:h_ [b] X.env=[(f_,eval b X.env)]:=by kernel_rfl) :
 FI X tg (.Call (.Name "range" p) [a,b] [] pos) (fun ρ=>bnd (ga ρ) rM):=by
 constructor
 intro pins s σ H R I h
 obtain ⟨ρ,E,o⟩:=h
 refine o8 hg hm ha.h hs hs2 pins s σ H R I ⟨ρ,E,jh o fun ds vs H' e rs o1=>?_⟩
 unfold rM at o1
 split at o1
 · rename_i i j
   split at o1
   · rename_i hj
     obtain ⟨v,us,rfl,r,t⟩:∃ v us,vs=v :: us∧Rep X.K H' (.int i) v∧Reps X.K H' [.int j] us:=rs
     obtain ⟨v2,us2,rfl,r2,t2⟩:∃ v us',us=v :: us'∧Rep X.K H' (.int j) v∧Reps X.K H' [] us':=t
     cases (show us2=[] from t2)
     cases (show v=.int i from r)
     cases (show v2=.int j from r2)
     exact ⟨i,j,rfl,hj,o1 _ H' (.refl H') mQ⟩
   · exact o1.elim
 · exact o1.elim
end
def jI (i:Nat) (js:List Nat) (body:FnS):List Dv→Ev→Option Fl
 | [],ρ=>a_ (.nx (fgt js ρ))
 | d :: ds,ρ=>match body ((fgt js ρ).set i (a_ d)) with
  | some (.nx ρ')=>jI i js body ds ρ'
  | o=>o
def sf (i:Nat) (js:List Nat) (src:FnA) (body:FnS):FnS:=fun ρ=>cg (src ρ) fun ds=>jI i js body ds ρ
theorem iA {α:Type} {ds:List α} {i:Nat} {d:α} (h:ds[i]?=a_ d):ds.drop i=d :: ds.drop (i + 1):=by
 obtain ⟨hi,e⟩:=E_.mp h
 rw [List.drop_eq_getElem_cons hi,e]
theorem yP {X:Cx} {tg iter:C_} {body:List GT} {pos:Pos} {src:FnA} {fb:FnS} (i:Nat) (js:List Nat) (hp:Lv (x_ X.prog X.w) X.A X.env X.xe) (hc:X.calm=e_) (hi:FI X tg iter src) (hg:PG X tg (rR i)) (hb:FSs X body fb)
 (hs:∀ x,FR iter X.env x=pure x:=by intro _; kernel_rfl):FS X (.For tg iter body [] pos) (sf i js src fb):=by
 refine pD (uf hp hc hi.h hg hb.h hs) fun D σ H ρ E o=>⟨ρ,E,?_⟩
 unfold sf at o
 match hf:src ρ,o with
 | none,o=>exact o
 | some (.exc c),o=>exact o
 | some (.ok ds),o =>
  intro J H1 e1 wk
  have o1:OutS X H1 (jI i js fb ds ρ) D:=OutS.mono e1 o
  refine ⟨fun n m σ' H'=>m=ds.length - n∧n≤ds.length∧Same H1 H'∧∃ ρ',Envs X.K H' σ' ρ'∧OutS X H' (jI i js fb (ds.drop n) ρ') D,⟨ds.length,by simp,Gd _,.refl H1,ρ,E.mono e1,by simpa using o1⟩,?_⟩
  rintro n m σ' H' ⟨rfl,hn,e2,ρ',E',o'⟩
  by_cases hlt:n < ds.length
  · refine .inr ⟨wk.go n H' e2 hlt,fun σ2 H2=>Same H1 H2∧∃ ρ2,Envs X.K H2 σ2 ρ2∧OutS X H2 (jI i js fb (ds.drop (n + 1)) ρ2) D,fun σ2 H2 ⟨e3,ρ2,E2,o2⟩=>⟨ds.length - (n + 1),by omega,rfl,hlt,e3,ρ2,E2,o2⟩,fun x H2 y=>?_⟩
    obtain ⟨rfl,d,hd,rd⟩:=wk.yld n H' x H2 e2 hlt y
    rw [iA hd] at o'
    show tS X fb _ _ _
    refine ⟨(fgt js ρ').set i (a_ d),(Envs.fgt js E').set rd,?_⟩
    unfold jI at o'
    match hb':fb ((fgt js ρ').set i (a_ d)) with
    | none=>rw [hb'] at o'; exact o'
    | some (.exc c)=>rw [hb'] at o'; exact o'
    | some (.rt r)=>rw [hb'] at o'; exact o'
    | some (.nx ρ2)=>rw [hb'] at o'; exact fun σ2 H3 e3 E3=>⟨e2.trans e3,ρ2,E3,OutS.mono e3 o'⟩
  · have hn':n=ds.length:=by omega
    subst hn'
    rw [KD] at o'
    exact .inl ⟨wk.stop H' e2,o' σ' H' (.refl H') (Envs.fgt js E')⟩
def spF (K:c_) (F:List Dv→Option (Rs Dv)) (n:Nat):Sp:=fun vs H Q _=>∃ ds,Reps K H ds vs∧ds.length=n∧match F ds with
 | some (.ok d)=>∀ v H',Same H H'→Rep K H' d v→Q v H'
 | _=>False
def ag (F:List Dv→Option (Rs Dv)) (n:Nat) (g:FnA):FnE:=fun ρ=>bnd (g ρ) fun ds=>if ds.length=n then (match F ds with | some (.ok d)=>a_ (.ok d) | _=>ck) else ck
section
variable {X:Cx} {k n:Nat} {f:i_} {fd:F8} {ps:List Str} {x:Str} {p pos:Pos} {e:C_} {es:List C_} {F:List Dv→Option (Rs Dv)} {g:FnA}
theorem vq (G:FnOk X.prog X.w X.K X.mg X.base CX0 k f fd ps (spF X.K F n)) (hr:Room k X.A) (hg:Gl X x) (hm:X.mg x=a_ (.ref f)) (hk:F4 X.K (.ref f)=e_) (hb:Binds X.K fd ps [])
 (ha:FA X (e :: es) g) (hdb:(x == ("__debug__":Str))=f_:=by kernel_rfl) (he:h_ (e :: es) X.env=(f_,eval e X.env) :: h_ es X.env:=by kernel_rfl) (hpl:(FP pos (h_ es X.env)).any (·.1)=f_:=by kernel_rfl) :
 FE X (.Call (.Name x p) (e :: es) [] pos) (ag F n g) :=
 cA (jF G hr hg hm hk hb .nil yu ha.h hdb he hpl) fun σ H Q ρ E o=>⟨ρ,E,OutA.bind o fun ds vs H' e rs o1=>by
  show spF X.K F n (vs ++ []) H' Q E0
  rw [GE]
  split at o1
  · rename_i hl
    refine ⟨ds,rs,hl,?_⟩
    match hF:F ds with
    | some (.ok d)=>rw [hF] at o1; exact o1
    | some (.exc c)=>rw [hF] at o1; exact o1
    | none=>rw [hF] at o1; exact o1
  · exact o1.elim⟩
def Has (P:n_) (w:y_) (K:c_) (mg:Str→Option d_) (base:FF) (x:Str) (k:Nat) (ps:List Str) (F:List Dv→Option (Rs Dv)):Prop :=
 ∃ f fd,FnOk P w K mg base CX0 k f fd ps (spF K F ps.length)∧mg x=a_ (.ref f)∧F4 K (.ref f)=e_∧Binds K fd ps []
theorem sh {k':Nat} (k:Nat) (ps:List Str) (F:List Dv→Option (Rs Dv)) (h:Has X.prog X.w X.K X.mg X.base x k ps F) (hr:Room k' X.A) (hk:k≤k') (hg:Gl X x) (ha:FA X (e :: es) g) (hn:n=ps.length:=by kernel_rfl) (hdb:(x == ("__debug__":Str))=f_:=by kernel_rfl)
 (he:h_ (e :: es) X.env=(f_,eval e X.env) :: h_ es X.env:=by kernel_rfl) (hpl:(FP pos (h_ es X.env)).any (·.1)=f_:=by kernel_rfl) :
 FE X (.Call (.Name x p) (e :: es) [] pos) (ag F n g):=by
 subst hn
 obtain ⟨f,fd,G,hm,hkp,hb⟩:=h
 exact vq (G.mono hk) hr hg hm hkp hb ha hdb he hpl
def aY (m:Nat) (fb:FnS):List Dv→Option (Rs Dv):=fun ds=>match fb (ds.map a_ ++ o_ (m - ds.length) ck) with
 | some (.nx _)=>a_ (.ok .non)
 | some (.rt d)=>a_ (.ok d)
 | _=>ck
theorem cT {K:c_} {H:Hp} {N:List Str} {ds:List Dv} {vs:List V} (r:Reps K H ds vs):Envs K H (L2.start N vs) (ds.map a_ ++ o_ (N.length - ds.length) ck):=by
 have hl:=r.length
 refine ⟨by unfold L2.start; rw [Gs,Gs,Gb,Gb,He,He,hl],fun i d h=>?_⟩
 by_cases hi:i < ds.length
 · rw [Hi (by simpa using hi),FY] at h
   cases hd:ds[i]? with
   | none=>rw [hd] at h; cases h
   | some d' =>
    rw [hd] at h
    have h':a_ (a_ d')=a_ (a_ d):=h
    injection h' with h'
    injection h' with h'
    subst h'
    obtain ⟨v,h1,h2⟩:=r.get' hd
    refine ⟨v,?_,h2⟩
    unfold L2.start
    rw [Hi (by rw [Gb,hl]; exact hi),FY,h1] <;> rfl
 · rw [GR (by simpa using hi),HI] at h
   split at h <;> cases h
theorem Cg {P:n_} {w:y_} {K:c_} {mg:Str→Option d_} {base:FF} {qual:Str} {st:GT} {N:List Str} {fb:FnS} (Fn:Fun K x qual st f fd) (S:cK N ps (al st))
 (hb:∀ (cdv:d_) (A:w_) (outer:List Env) (s:ge) (H:Hp) (E:XK),Room k (A.deeper (Hh qual (al st) s.heap.objs.size f cdv))→FSs (iY CX0 P w K mg base N qual (al st) f cdv A outer s H E).nox (bA st) fb) :
 FnOk P w K mg base CX0 (k + 1) f fd ps (spF K (aY N.length fb) ps.length):=by
 refine Fn.ok S (fun vs H Q E h=>?_) (fun cdv A outer s H vs Q E hr h=>?_)
 · obtain ⟨ds,r,hl,_⟩:=h
   rw [r.length,hl]
 · obtain ⟨ds,r,hl,q⟩:=h
   refine ⟨_,(hb cdv A outer s H E hr).h,ds.map a_ ++ o_ (N.length - ds.length) ck,cT r,?_⟩
   unfold aY at q
   match hf:fb (ds.map a_ ++ o_ (N.length - ds.length) ck) with
   | none=>rw [hf] at q; exact q.elim
   | some (.exc c)=>rw [hf] at q; exact q.elim
   | some (.rt d)=>rw [hf] at q; exact fun v H' e r'=>q v H' e r'
   | some (.nx ρ)=>rw [hf] at q; exact fun σ' H' e _=>q .non H' e rfl
end
theorem yQ {k:Nat} {f:i_} {fd:F8} {x:Str} {P:n_} {w:y_} {K:c_} {mg:Str→Option d_} {base:FF} {qual:Str} {st:GT} {F:List Dv→Option (Rs Dv)} {n:Nat} (N ps:List Str) (fb:FnS) (hF:F=aY N.length fb) (hn:n=ps.length)
 (Fn:Fun K x qual st f fd) (S:cK N ps (al st))
 (hb:∀ (cdv:d_) (A:w_) (outer:List Env) (s:ge) (H:Hp) (E:XK),Room k (A.deeper (Hh qual (al st) s.heap.objs.size f cdv))→FSs (iY CX0 P w K mg base N qual (al st) f cdv A outer s H E).nox (bA st) fb) :
 FnOk P w K mg base CX0 (k + 1) f fd ps (spF K F n):=by
 subst hF hn
 exact Cg Fn S hb
def gH (names:List (Str×HF)) (env:Env) (acc:List (Str×i_)):List (Str×i_):=match names with
 | []=>acc
 | (n,k) :: r=>gH r env (if k == .free then (n,(env.cells.lookup n).getD 0) :: acc else acc)
theorem ji {env:Env} {n:Str} {c:i_}:∀ (names:List (Str×HF)) (acc:List (Str×i_)),(gH names env acc).lookup n=a_ c→acc.lookup n=a_ c∨((n,GN)∈names∧c=(env.cells.lookup n).getD 0)
 | [],acc,h=>.inl h
 | (m,k) :: r,acc,h=>by
  rcases ji r _ h with q | ⟨q1,q2⟩
  · by_cases hk:k=.free
    · subst hk
      simp only [beq_self_eq_true,if_true] at q
      rw [F_] at q
      cases hm:n == m with
      | true =>
       rw [hm] at q
       have e:n=m:=by simpa using hm
       subst e
       exact .inr ⟨p_,(F0 q).symm⟩
      | false=>rw [hm] at q; exact .inl q
    · have hb:(k == GN)=f_:=by simpa using hk
      rw [hb] at q
      exact .inl (by simpa using q)
  · exact .inr ⟨on _ q1,q2⟩
theorem kx {env:Env} {n:Str}:∀ (names:List (Str×HF)) (acc:List (Str×i_)),(acc.lookup n).isSome=e_→((gH names env acc).lookup n).isSome=e_
 | [],acc,h=>h
 | (m,k) :: r,acc,h=>by
  refine kx r _ ?_
  split
  · rw [F_]
    cases n == m with
    | true=>rfl
    | false=>exact h
  · exact h
theorem jJ {env:Env} {n:Str}:∀ (names:List (Str×HF)) (acc:List (Str×i_)),(n,GN)∈names→((gH names env acc).lookup n).isSome=e_
 | [],acc,h=>by cases h
 | (m,k) :: r,acc,h=>by
  rcases FB.mp h with e | q
  · injection e with e1 e2
    subst e1
    subst e2
    refine kx r _ ?_
    simp only [beq_self_eq_true,if_true,F_]
    rfl
  · exact jJ r _ q
theorem du {β:Type} {n:Str} {k:β}:∀ {l:List (Str×β)},l.lookup n=a_ k→(n,k)∈l
 | [],h=>by simp at h
 | (m,j) :: r,h=>by
  rw [F_] at h
  cases hm:n == m with
  | true =>
   rw [hm] at h
   have e:n=m:=by simpa using hm
   subst e
   have e2:j=k:=F0 h
   subst e2
   exact p_
  | false=>rw [hm] at h; exact on _ (du h)
structure Ea (osc scope:GK) (x:Str) (cs:List (Str×Nat)) (N:List Str):Prop where
 kind:scope.kind=.function
 okind:osc.kind=.function
 cell:∀ y∈scope.names,y.2≠.cell
 names:∀ y∈scope.names,y.2=.local→scope.names.lookup y.1=a_ .local
 tgt:scope.names.lookup x=a_ .local
 nd:(x :: cs.map (·.1)).Nodup
 free:∀ y∈scope.names,y.2=.free→osc.names.lookup y.1=a_ .cell∨osc.names.lookup y.1=a_ .free
 caps:∀ c∈cs,N[c.2]?=a_ c.1∧scope.names.lookup c.1=a_ .free
theorem g8 {scope:GK} {env:Env} {n:Str} {k:HF} (h:(relabel scope env).names.lookup n=a_ k):(n,k)∈scope.names∨(k=.cell∧(n,GN)∈scope.names):=by
 have q:=du h
 unfold relabel at q
 obtain ⟨⟨m,j⟩,hm,e⟩:=G0.mp q
 dsimp only at e
 split at e
 · rename_i hc
   injection e with e1 e2
   subst e1
   have hj:j=.free:=by
    rw [l_,l_] at hc
    simpa using hc.1.1
   subst hj
   exact .inr ⟨e2.symm,hm⟩
 · injection e with e1 e2
   subst e1
   subst e2
   exact .inl hm
theorem hU {env:Env}:∀ {names:List (Str×HF)} {n:Str},names.lookup n=a_ .free →
 (names.map fun (n,k)=>if (k == GN && env.scope.kind == .function && env.kindOf n == a_ .cell) then (n,GZ) else (n,k)).lookup n=a_ .cell ∨
 (names.map fun (n,k)=>if (k == GN && env.scope.kind == .function && env.kindOf n == a_ .cell) then (n,GZ) else (n,k)).lookup n=a_ .free
 | [],_,h=>by simp at h
 | (m,k) :: r,n,h=>by
  have ih:=@hU env r n
  rw [F_] at h
  rw [FV]
  cases hm:n == m with
  | true =>
   rw [hm] at h
   have e2:k=.free:=F0 h
   subst e2
   by_cases hc:(GN == GN && env.scope.kind == .function && env.kindOf m == a_ .cell)=e_
   · dsimp only
     rw [if_pos hc,F_,hm]
     exact .inl rfl
   · dsimp only
     rw [if_neg hc,F_,hm]
     exact .inr rfl
  | false =>
   rw [hm] at h
   dsimp only
   by_cases hc:(k == GN && env.scope.kind == .function && env.kindOf m == a_ .cell)=e_
   · rw [if_pos hc,F_,hm]; exact ih h
   · rw [if_neg hc,F_,hm]; exact ih h
def nZ (cs:List (Str×Nat)) (ρ:Ev):Ev:=ck :: cs.map fun c=>(ρ[c.2]?).join
section
variable {X:Cx} {pins:List (i_×Obj)} {σ:L2.St} {H:Hp} {s:ge}
end
def pJ (tst:Option FnB) (elt:FnE) (cap:Ev):List Dv→Option (List Dv)
 | []=>a_ []
 | d :: ds =>
  let ρ:=cap.set 0 (a_ d)
  match (match tst with | none=>(a_ (.ok e_):Option (Rs Bool)) | some t=>t ρ) with
  | some (.ok e_)=>(match elt ρ with
   | some (.ok y)=>(match pJ tst elt cap ds with | some ys=>a_ (y :: ys) | none=>ck)
   | _=>ck)
  | some (.ok f_)=>pJ tst elt cap ds
  | _=>ck
def aN (cs:List (Str×Nat)) (src:FnA) (tst:Option FnB) (elt:FnE):FnE:=fun ρ=>bnd (src ρ) fun ds=>match pJ tst elt (nZ cs ρ) ds with
 | some ys=>if ys.length≤100000∧ds.length≤100000 then a_ (.ok (.lst ys)) else ck
 | none=>ck
def LAt (h:FF) (D:i_) (its:List d_):Prop:=∃ n,h.get? D=a_ { cls:=.type "list",data:=.seq its.toArray n }
theorem oa {P:n_} {w:y_} {A:w_} {E:d_→ge→Prop} {s:ge} {D:i_} {its:List d_} {u:d_} {Q:d_→ge→Prop} (h:LAt s.heap D its) (hz:its.length≤100000)
 (hQ:∀ h',LAt h' D (its ++ [u])→(∀ b o,b≠D→s.heap.get? b=a_ o→h'.get? b=a_ o)→Q .none { s with heap:=h' }):u_ (x_ P w) A (call (.builtin "list.append") [.ref D,u]) Q E s:=by
 obtain ⟨n,e⟩:=h
 refine HL Jo ⟨_,e,rfl⟩ Lz (Lk _ _) (LZ D its.toArray n u (by rw [uk]; exact bG hz)) ⟨e,?_⟩
 have q:=Mv e (·.push u)
 have e2:its.toArray.push u=(its ++ [u]).toArray:=by simp
 rw [e2] at q
 exact hQ _ ⟨_,q⟩ fun b o hb ho=>(KR s.heap _ (IX hb)).trans ho
def lP (X:Cx) (ifs:List C_) (tst:Option FnB):Prop:=match tst with
 | none=>ifs=[]
 | some t=>∃ c,ifs=[c]∧FT X c t
theorem HOk.add {P:n_} {w:y_} {H:Hp} {h h':FF} {D C:i_} {o:HO} (x:HOk P w H h) (hD:H D=ck) (hC:H C=ck) (k:∀ b u,b≠C→h.get? b=a_ u→h'.get? b=a_ u) (new:ObjOk P w (upd H D o) h' D o):HOk P w (upd H D o) h':=fun b u e=>by
 by_cases hb:b=D
 · subst hb; rw [ao] at e; cases e; exact new
 · rw [au hb] at e
   refine (x b u e).stay (fun c v hc q=>k c v ?_ q) (fun c q=>by rw [au (av q hD)]; exact q) fun c xs q=>by rw [au (av q hD)]; exact q
   rcases hc with rfl | hc
   · exact av e hC
   · exact av hc hC
theorem vt {b D:Nat} (h:b < D):b≠D:=by omega
theorem yR {b D:Nat} (h:b < D):b≠D + 1:=by omega
theorem Eb {D:Nat}:D≠D + 1:=by omega
section
variable {X:Cx}
def cB:Dv→Dv→Option (Rs Dv)
 | .int i,.int j=>a_ (.ok (.int (i + j)))
 | .str x,.str y=>if x.length + y.length≤100000 then a_ (.ok (.str (x ++ y))) else ck
 | .lst a,.lst b=>if a.length + b.length≤100000 then a_ (.ok (.lst (a ++ b))) else ck
 | _,_=>ck
def vv:R2:=fun x y H Q=>rI0 (fun i j=>.int (i + j)) x y H Q∨((∃ i j,x=.str i∧y=.str j∧i.length + j.length≤sizeLine∧Q (.str (i ++ j)) H)∨D6 x y H Q)
theorem o_add:OpR X (GV .Add) vv:=op_add.or (op_add_str.or yt)
theorem yS:GOp X vv cB:=by
 intro dx dy x y H Q rx ry o
 cases dx <;> cases dy <;> try exact (show False from o).elim
 · rename_i i j
   exact .inl ⟨i,j,rx,ry,o _ H (.refl H) rfl⟩
 · rename_i i j
   simp only [cB] at o
   split at o
   · rename_i hl
     exact .inr (.inl ⟨i,j,rx,ry,bG hl,o _ H (.refl H) rfl⟩)
   · exact o.elim
 · rename_i a b
   simp only [cB] at o
   split at o
   · rename_i hl
     obtain ⟨p,xs,rfl,h1,q1⟩:=rx.lstE
     obtain ⟨p2,xs2,rfl,h2,q2⟩:=ry.lstE
     refine .inr (.inr ⟨p,p2,xs,xs2,rfl,rfl,h1,h2,by rw [q1.length,q2.length]; exact bG hl,fun l hl=>o _ _ (aq hl _) ⟨l,_,rfl,ao,Reps.mono (aq hl _) _ _ (q1.append q2)⟩⟩)
   · exact o.elim
def vw:Dv→Dv→Option (Rs Dv)
 | .int i,.int j=>a_ (.ok (.int (i - j)))
 | _,_=>ck
theorem Ch:GOp X (rI0 fun i j=>.int (i - j)) vw:=by
 intro dx dy x y H Q rx ry o
 cases dx <;> cases dy <;> try exact (show False from o).elim
 rename_i i j
 exact ⟨i,j,rx,ry,o _ H (.refl H) rfl⟩
def hW:Dv→Dv→Option (Rs Dv)
 | .int i,.int j=>if (-18446744073709551616 < i∧i < 18446744073709551616)∨(-18446744073709551616 < j∧j < 18446744073709551616) then a_ (.ok (.int (i * j))) else ck
 | _,_=>ck
theorem yT:GOp X (rI CMul fun i j=>.int (i * j)) hW:=by
 intro dx dy x y H Q rx ry o
 cases dx <;> cases dy <;> try exact (show False from o).elim
 rename_i i j
 simp only [hW] at o
 split at o
 · rename_i h
   exact ⟨i,j,rx,ry,h,o _ H (.refl H) rfl⟩
 · exact o.elim
def gh:Dv→Dv→Option (Rs Dv)
 | .int i,.int j=>if 0 < j then a_ (.ok (.int (i % j))) else ck
 | _,_=>ck
theorem Ci:GOp X (rI (fun _ j=>0 < j) fun i j=>.int (i % j)) gh:=by
 intro dx dy x y H Q rx ry o
 cases dx <;> cases dy <;> try exact (show False from o).elim
 rename_i i j
 simp only [gh] at o
 split at o
 · rename_i h
   exact ⟨i,j,rx,ry,h,o _ H (.refl H) rfl⟩
 · exact o.elim
def gk:Dv→Dv→Option (Rs Dv)
 | .int i,.int j=>if 0 < j∧j < 1073741824 then a_ (.ok (.int (i / j))) else ck
 | _,_=>ck
theorem yU:GOp X (rI DU fun i j=>.int (i / j)) gk:=by
 intro dx dy x y H Q rx ry o
 cases dx <;> cases dy <;> try exact (show False from o).elim
 rename_i i j
 simp only [gk] at o
 split at o
 · rename_i h
   exact ⟨i,j,rx,ry,h,o _ H (.refl H) rfl⟩
 · exact o.elim
def pK:Dv→Option (Rs Dv)
 | .int i=>a_ (.ok (.int (-i)))
 | _=>ck
def f1 (g:Dv→Option (Rs Dv)) (fa:FnE):FnE:=fun ρ=>bnd (fa ρ) g
theorem uo {a:C_} {fa:FnE} {pos:Pos} (ha:FE X a fa):FE X (.UnaryOp .USub a pos) (f1 pK fa) :=
 cA (BW yj ha.h) fun σ H Q ρ E o=>⟨ρ,E,Out.bind o fun d v H1 e r o1=>by
  cases d <;> try exact (show False from o1).elim
  rename_i i
  exact ⟨i,r,o1 _ H1 (.refl H1) rfl⟩⟩
def seq (x y:Str):Bool:=x.cps.toList == y.cps.toList
theorem uq (x y:Str):(x == y)=seq x y:=by
 rw [Gp]
 unfold seq
 obtain ⟨⟨a⟩⟩:=x
 obtain ⟨⟨b⟩⟩:=y
 simp
def eqS:Dv→Dv→Option Bool
 | .non,.non=>a_ e_
 | .non,.int _=>a_ f_
 | .int _,.non=>a_ f_
 | .non,.bl _=>a_ f_
 | .bl _,.non=>a_ f_
 | .non,.str _=>a_ f_
 | .str _,.non=>a_ f_
 | .int i,.int j=>a_ (i == j)
 | .bl i,.bl j=>a_ (i == j)
 | .str i,.str j=>a_ (seq i j)
 | .int _,.str _=>a_ f_
 | .str _,.int _=>a_ f_
 | .bl _,.str _=>a_ f_
 | .str _,.bl _=>a_ f_
 | _,_=>ck
theorem ur {K:c_} {H:Hp} {dx dy:Dv} {x y:V} {b:Bool} (rx:Rep K H dx x) (ry:Rep K H dy y) (h:eqS dx dy=a_ b):BY x y=e_∧t_ (x=y)=b:=by
 cases dx <;> cases dy <;> (try cases h) <;> (try (cases rx; cases ry; exact ⟨rfl,by first | rfl | exact lH | exact o9 | (rw [lI,uq]) | simp⟩))
def Cj (p:Int→Int→Bool):Dv→Dv→Option (Rs Dv)
 | .int i,.int j=>a_ (.ok (.bl (p i j)))
 | _,_=>ck
theorem Ck (p:Int→Int→Bool):GOp X (rI0 fun i j=>.bl (p i j)) (Cj p):=by
 intro dx dy x y H Q rx ry o
 cases dx <;> cases dy <;> try exact (show False from o).elim
 rename_i i j
 exact ⟨i,j,rx,ry,o _ H (.refl H) rfl⟩
abbrev gtD:=Cj fun i j=>t_ (j < i)
def isN:Dv→Dv→Option (Rs Dv)
 | x,.non=>a_ (.ok (.bl (match x with | .non=>e_ | _=>f_)))
 | _,_=>ck
def gI:Dv→Dv→Option (Rs Dv)
 | x,.non=>a_ (.ok (.bl (match x with | .non=>f_ | _=>e_)))
 | _,_=>ck
theorem pL {K:c_} {H:Hp} {d:Dv} {v:V} (r:Rep K H d v):t_ (v=.non)=(match d with | .non=>e_ | _=>f_):=by
 cases d with
 | non=>cases (show v=.non from r); rfl
 | bl b=>cases (show v=.bl b from r); rfl
 | int b=>cases (show v=.int b from r); rfl
 | str b=>cases (show v=.str b from r); rfl
 | tup ds=>obtain ⟨a,xs,rfl,_⟩:=r.tupE; rfl
 | lst ds=>obtain ⟨a,xs,rfl,_⟩:=r.lstE; rfl
 | scr ds=>obtain ⟨a,rfl,_⟩:=r.scrE; rfl
 | exn c =>
  obtain ⟨a,_,_,_,rfl,_⟩:=r.exnE
  rfl
theorem yV:GOp X (fun x y H Q=>y=.non∧Q (.bl (t_ (x=.non))) H) isN:=by
 intro dx dy x y H Q rx ry o
 cases dy <;> try exact (show False from o).elim
 have q:=pL rx
 refine ⟨ry,?_⟩
 have q2:=o _ H (.refl H) rfl
 cases dx <;> (rw [q]; exact q2)
theorem ut:GOp X (fun x y H Q=>y=.non∧Q (.bl (!t_ (x=.non))) H) gI:=by
 intro dx dy x y H Q rx ry o
 cases dy <;> try exact (show False from o).elim
 have q:=pL rx
 refine ⟨ry,?_⟩
 have q2:=o _ H (.refl H) rfl
 cases dx <;> (rw [q]; exact q2)
def inS (x y:Str):Bool:=!(FQ y x 0 y.length 1).isEmpty
def eE:Dv→Bool
 | .non=>e_
 | .bl _=>e_
 | .int _=>e_
 | .str _=>e_
 | _=>f_
def eqF:Dv→Dv→Bool
 | .non,.non=>e_
 | .bl a,.bl b=>a == b
 | .bl a,.int b=>(if a then 1 else 0) == b
 | .int a,.bl b=>a == (if b then 1 else 0)
 | .int a,.int b=>a == b
 | .str a,.str b=>seq a b
 | _,_=>f_
def inL (x:Dv) (ys:List Dv):Option Bool:=if eE x && ys.all eE then a_ (ys.any fun y=>eqF y x) else ck
def xB:Dv→Dv→Option Bool
 | .str x,.str y=>a_ (inS x y)
 | x,.lst ys=>inL x ys
 | x,.tup ys=>inL x ys
 | _,_=>ck
def inD (x y:Dv):Option (Rs Dv):=match xB x y with
 | some b=>a_ (.ok (.bl b))
 | none=>ck
def mR (x y:Dv):Option (Rs Dv):=match xB x y with
 | some b=>a_ (.ok (.bl (!b)))
 | none=>ck
theorem jK {K:c_} {H:Hp} {d:Dv} {v:V} (r:Rep K H d v) (h:eE d=e_):el v=e_:=by
 cases d <;> first | (cases h; done) | (cases r; rfl)
theorem ie {K:c_} {H:Hp}:∀ {ds:List Dv} {vs:List V},Reps K H ds vs→ds.all eE=e_→vs.all el=e_
 | [],vs,r,_=>by cases (show vs=[] from r); rfl
 | d :: ds,vs,r,h=>by
  obtain ⟨v,us,rfl,r1,r2⟩:∃ v us,vs=v :: us∧Rep K H d v∧Reps K H ds us:=r
  rw [G4,l_] at h
  rw [G4,l_]
  exact ⟨jK r1 h.1,ie r2 h.2⟩
theorem pM {K:c_} {H:Hp} {d e:Dv} {v u:V} (r:Rep K H d v) (q:Rep K H e u) (h:eE d=e_) (h':eE e=e_):eqV v u=eqF d e:=by
 cases d <;> first | (cases h; done) | (cases r; cases e <;> first | (cases h'; done) | (cases q; first | rfl | exact uq _ _))
theorem uu {K:c_} {H:Hp} {e:Dv} {u:V} (q:Rep K H e u) (h':eE e=e_):∀ {ds:List Dv} {vs:List V},Reps K H ds vs→ds.all eE=e_→(vs.any fun y=>eqV y u)=ds.any fun y=>eqF y e
 | [],vs,r,_=>by cases (show vs=[] from r); rfl
 | d :: ds,vs,r,h=>by
  obtain ⟨v,us,rfl,r1,r2⟩:∃ v us,vs=v :: us∧Rep K H d v∧Reps K H ds us:=r
  rw [G4,l_] at h
  rw [Jk,Jk,pM r1 q h.1 h',uu q h' r2 h.2]
theorem mS {K:c_} {H:Hp} {dx:Dv} {ys:List Dv} {x:V} {vs:List V} {b:Bool} (rx:Rep K H dx x) (ry:Reps K H ys vs) (h:inL dx ys=a_ b):el x=e_∧vs.all el=e_∧inV x vs=b:=by
 unfold inL at h
 split at h
 · rename_i hc
   rw [l_] at hc
   cases h
   exact ⟨jK rx hc.1,ie ry hc.2,uu rx hc.1 ry hc.2⟩
 · cases h
def Co (K:c_):R2:=fun x y H Q=>(∃ i j,x=.str i∧y=.str j∧Q (.bl (!(FQ j i 0 j.length 1).isEmpty)) H)∨rIn K f_ x y H Q
def pN (K:c_):R2:=fun x y H Q=>(∃ i j,x=.str i∧y=.str j∧Q (.bl (!(!(FQ j i 0 j.length 1).isEmpty))) H)∨rIn K e_ x y H Q
theorem o_in:OpR X (F9 .In) (Co X.K):=op_in_str.or pv
theorem vx:OpR X (F9 .NotIn) (pN X.K):=op_notIn_str.or kq
theorem Cp:GOp X (Co X.K) inD:=by
 intro dx dy x y H Q rx ry o
 unfold inD at o
 split at o
 · rename_i b hb
   have q:=o _ H (.refl H) rfl
   cases dy <;> try (cases dx <;> cases hb; done)
   · rename_i z
     cases dx <;> try (cases hb; done)
     rename_i z'
     cases hb
     exact .inl ⟨z',z,rx,ry,q⟩
   · rename_i ys
     have hb':inL dx ys=a_ b:=by cases dx <;> exact hb
     obtain ⟨a,vs,rfl,h1,h2⟩:=ry.tupE
     obtain ⟨f1,f2,f3⟩:=mS rx h2 hb'
     exact .inr ⟨a,vs,rfl,.inr (SqT.of h1),f1,f2,by rw [if_neg q_,f3]; exact q⟩
   · rename_i ys
     have hb':inL dx ys=a_ b:=by cases dx <;> exact hb
     obtain ⟨a,vs,rfl,h1,h2⟩:=ry.lstE
     obtain ⟨f1,f2,f3⟩:=mS rx h2 hb'
     exact .inr ⟨a,vs,rfl,.inl (SqL.of h1),f1,f2,by rw [if_neg q_,f3]; exact q⟩
 · exact o.elim
theorem vy:GOp X (pN X.K) mR:=by
 intro dx dy x y H Q rx ry o
 unfold mR at o
 split at o
 · rename_i b hb
   have q:=o _ H (.refl H) rfl
   cases dy <;> try (cases dx <;> cases hb; done)
   · rename_i z
     cases dx <;> try (cases hb; done)
     rename_i z'
     cases hb
     exact .inl ⟨z',z,rx,ry,q⟩
   · rename_i ys
     have hb':inL dx ys=a_ b:=by cases dx <;> exact hb
     obtain ⟨a,vs,rfl,h1,h2⟩:=ry.tupE
     obtain ⟨f1,f2,f3⟩:=mS rx h2 hb'
     exact .inr ⟨a,vs,rfl,.inr (SqT.of h1),f1,f2,by rw [if_pos rfl,f3]; exact q⟩
   · rename_i ys
     have hb':inL dx ys=a_ b:=by cases dx <;> exact hb
     obtain ⟨a,vs,rfl,h1,h2⟩:=ry.lstE
     obtain ⟨f1,f2,f3⟩:=mS rx h2 hb'
     exact .inr ⟨a,vs,rfl,.inl (SqL.of h1),f1,f2,by rw [if_pos rfl,f3]; exact q⟩
 · exact o.elim
def atD {α:Type} (xs:List α) (i:Int):Option α:=if 0≤i then xs[i.toNat]? else if -(xs.length:Int)≤i then xs[(i + xs.length).toNat]? else ck
theorem jL {α:Type} {xs:List α} {i:Int} {v:α} (h:atD xs i=a_ v):atI xs i=a_ v:=by
 unfold atD at h
 unfold atI ixN
 split at h
 · rename_i h0
   have hl:i.toNat < xs.length:=by
    obtain ⟨q,_⟩:=E_.mp h
    exact q
   rw [if_pos h0,if_pos (by omega)]
   exact h
 · rename_i h0
   split at h
   · rename_i h1
     rw [if_neg h0,if_pos h1]
     exact h
   · cases h
def ixD:Dv→Dv→Option (Rs Dv)
 | .lst xs,.int i=>(match atD xs i with | some d=>a_ (.ok d) | none=>ck)
 | .tup xs,.int i=>(match atD xs i with | some d=>a_ (.ok d) | none=>ck)
 | .str z,.int i=>if z.length≤100000 then (match atD z.cps.toList i with | some c=>a_ (.ok (.str ⟨#[c]⟩)) | none=>ck) else ck
 | .scr ns,.int i=>(match atD ns i with | some d=>a_ (.ok (.int d)) | none=>ck)
 | _,_=>ck
theorem lQ {α β:Type} {xs:List α} {ys:List β} (h:ys.length=xs.length) {i:Int} {x:α} (e:atD xs i=a_ x):∃ j:Nat,xs[j]?=a_ x∧∀ y,ys[j]?=a_ y→atD ys i=a_ y:=by
 unfold atD at e
 split at e
 · rename_i h0
   exact ⟨_,e,fun y q=>by unfold atD; rw [if_pos h0]; exact q⟩
 · rename_i h0
   split at e
   · rename_i h1
     exact ⟨_,e,fun y q=>by unfold atD; rw [if_neg h0,h,if_pos h1]; exact q⟩
   · cases e
theorem ER:GOp X (rIx X.K) ixD:=by
 intro dx dy x y H Q rx ry o
 cases dx <;> cases dy <;> try exact (show False from o).elim
 · rename_i z i
   simp only [ixD] at o
   split at o
   · rename_i hl
     split at o
     · rename_i c hc
       exact .inr (.inr ⟨z,i,c,rx,ry,bG hl,jL hc,o _ H (.refl H) rfl⟩)
     · exact o.elim
   · exact o.elim
 · rename_i ds i
   simp only [ixD] at o
   split at o
   · rename_i d hd
     obtain ⟨a,xs,rfl,h1,h2⟩:=rx.tupE
     obtain ⟨j,e1,e2⟩:=lQ h2.length hd
     obtain ⟨v,e3,r3⟩:=h2.get' e1
     exact .inr (.inl ⟨a,xs,i,v,rfl,ry,SqT.of h1,jL (e2 v e3),o v H (.refl H) r3⟩)
   · exact o.elim
 · rename_i ds i
   simp only [ixD] at o
   split at o
   · rename_i d hd
     obtain ⟨a,xs,rfl,h1,h2⟩:=rx.lstE
     obtain ⟨j,e1,e2⟩:=lQ h2.length hd
     obtain ⟨v,e3,r3⟩:=h2.get' e1
     exact .inl ⟨a,xs,i,v,rfl,ry,SqL.of h1,jL (e2 v e3),o v H (.refl H) r3⟩
   · exact o.elim
 · rename_i ns i
   simp only [ixD] at o
   split at o
   · rename_i d hd
     obtain ⟨a,rfl,h1⟩:=rx.scrE
     obtain ⟨j,e1,e2⟩:=lQ (ys:=ns.map V.int) (by simp) hd
     exact .inl ⟨a,_,i,.int d,rfl,ry,h1,jL (e2 _ (by rw [FY,e1] <;> rfl)),o _ H (.refl H) rfl⟩
   · exact o.elim
theorem Cq {a b:C_} {fa fb:FnE} {pos:Pos} (ha:FE X a fa) (hb:FE X b fb) (hs:lK b:=by intro _ _; kernel_rfl):FE X (.Subscript a b pos) (f2 ixD fa fb) :=
 cA (yn yp ha.h hb.h hs) fun _ _ _ _ E o=>two ER E o
abbrev FnO:=Ev→Option (Rs (Option Int))
def OutO (X:Cx) (H:Hp) (o:Option (Rs (Option Int))) (Q:Option Int→Hp→Prop):Prop:=match o with
 | none=>False
 | some (.exc c)=>XW X c H
 | some (.ok d)=>∀ H',Same H H'→Q d H'
theorem OutO.mono {H H':Hp} {Q:Option Int→Hp→Prop} (e:Same H H'):∀ {o:Option (Rs (Option Int))},OutO X H o Q→OutO X H' o Q
 | none,h=>h
 | some (.exc _),h=>XW.mono h e
 | some (.ok _),h=>fun H1 e1=>h H1 (e.trans e1)
structure FO (X:Cx) (e:Option C_) (f:FnO):Prop where
 h:PO X e fun σ H Q=>∃ ρ,Envs X.K H σ ρ∧OutO X H (f ρ) Q
def fA:FnO:=fun _=>a_ (.ok ck)
def toI:Dv→Option (Rs (Option Int))
 | .int i=>a_ (.ok (a_ i))
 | _=>ck
def eG (f:FnE):FnO:=fun ρ=>bnd (f ρ) toI
theorem vz:FO X ck fA:=⟨fun pins s σ H Q I ⟨_,_,o⟩=>u9 pins s σ H Q I (o H (.refl H))⟩
theorem vA {e:C_} {fa:FnE} (h:FE X e fa):FO X (a_ e) (eG fa):=⟨fun pins s σ H Q I ⟨ρ,E,o⟩=>vb h.h pins s σ H Q I ⟨ρ,E,by
 unfold eG at o
 match hf:fa ρ,o with
 | none,o=>exact o
 | some (.exc c),o=>exact o
 | some (.ok d),o =>
  intro v H' e r
  cases d <;> try exact (show False from o).elim
  rename_i i
  exact ⟨i,r,o H' e⟩⟩⟩
def vB {α:Type} (xs:List α) (lo hi:Option Int):List α:=(xs.drop (HT.sIx xs.length 0 lo)).take (HT.sIx xs.length xs.length hi - HT.sIx xs.length 0 lo)
def ES:V→Option Int→Option Int→Hp→VK→Prop:=fun x lo hi H Q=>∃ z,x=.str z∧z.length≤sizeLine∧Q (.str (Mq z lo hi)) H
theorem sl_str:SlR X ES:=by
 intro pins s σ H x v vl vu lo hi sl Q I rx hs pl pu q
 obtain ⟨z,rfl,hz,q⟩:=q
 obtain ⟨t,rfl⟩:=rx
 refine ⟨"str",_,F.slot_str_getitem.lookup,Jd _ _ _,?_⟩
 have fin:∀ (t':Tok) (k:Nat),EP X pins σ Q (.str (Mq z lo hi) t') { s with toks:=k }:=fun t' k=>⟨.str (Mq z lo hi),H,I.tok _,⟨_,rfl⟩,q⟩
 cases pl with
 | none =>
  cases pu with
  | none=>exact HC (l:=ck) (u:=ck) (st:=ck) hs rfl (Jr ⟨F6 (KO z _ _) hz,fun t' k=>fin t' k⟩)
  | int j u=>exact HC (l:=ck) (u:=a_ (j,u)) (st:=ck) hs rfl (Jr ⟨F6 (KO z _ _) hz,fun t' k=>fin t' k⟩)
 | int i u' =>
  cases pu with
  | none=>exact HC (l:=a_ (i,u')) (u:=ck) (st:=ck) hs rfl (Jr ⟨F6 (KO z _ _) hz,fun t' k=>fin t' k⟩)
  | int j u=>exact HC (l:=a_ (i,u')) (u:=a_ (j,u)) (st:=ck) hs rfl (Jr ⟨F6 (KO z _ _) hz,fun t' k=>fin t' k⟩)
def Br (x:Dv) (lo hi:Option Int):Option (Rs Dv):=match x with
 | .str z=>if z.length≤100000 then a_ (.ok (.str (Mq z lo hi))) else ck
 | .lst xs=>a_ (.ok (.lst (vB xs lo hi)))
 | _=>ck
def uv (fa:FnE) (fl fh:FnO):FnE:=fun ρ=>bnd (fa ρ) fun x=>bnd (fl ρ) fun lo=>bnd (fh ρ) fun hi=>Br x lo hi
theorem gl {H:Hp} {Q:VK} {o:Option (Rs (Option Int))} {k:Option Int→Option (Rs Dv)} {P:Option Int→Hp→Prop} (h:Out X H (bnd o k) Q) (hp:∀ b H',Same H H'→Out X H' (k b) Q→P b H'):OutO X H o P:=by
 match o,h with
 | some (.exc _),h=>exact h
 | some (.ok d),h=>exact fun H1 e=>hp d H1 e (Out.mono e h)
theorem yW {a:C_} {lo hi:Option C_} {fa:FnE} {fl fh:FnO} {p2 pos:Pos} (ha:FE X a fa) (hl:FO X lo fl) (hh:FO X hi fh):FE X (.Subscript a (.Slice lo hi ck p2) pos) (uv fa fl fh) :=
 cA (mM (sl_str.or pr) ha.h hl.h hh.h) fun σ H Q ρ E o=>⟨ρ,E,Out.bind o fun d v H1 e1 r1 o1=>⟨ρ,E.mono e1,gl o1 fun l H2 e2 o2=>⟨ρ,(E.mono e1).mono e2,gl o2 fun u H3 e3 o3=>by
  have r3:=Rep.mono e3 d v (Rep.mono e2 d v r1)
  cases d <;> try exact (show False from o3).elim
  · rename_i z
    unfold Br at o3
    dsimp only at o3
    split at o3
    · rename_i hz
      exact .inl ⟨z,r3,bG hz,o3 _ H3 (.refl H3) rfl⟩
    · exact o3.elim
  · rename_i ds
    obtain ⟨a',xs,rfl,h1,h2⟩:=r3.lstE
    refine .inr ⟨a',xs,rfl,SqL.of h1,fun p hp=>o3 _ _ (aq hp _) ⟨p,_,rfl,ao,Reps.mono (aq hp _) _ _ ?_⟩⟩
    unfold rX vB
    rw [h2.length]
    exact (h2.drop _).take _⟩⟩⟩
def dg:List Dv→Option (Rs Dv)
 | [.str z]=>if z.length≤100000 then a_ (.ok (.int z.length)) else ck
 | [.lst xs]=>a_ (.ok (.int xs.length))
 | [.tup xs]=>a_ (.ok (.int xs.length))
 | [.scr ns]=>a_ (.ok (.int ns.length))
 | _=>ck
def fB1 (g:List Dv→Option (Rs Dv)) (ga:FnA):FnE:=fun ρ=>bnd (ga ρ) g
variable {x:Str} {p pos:Pos} {e:C_} {es:List C_} {ga:FnA}
theorem cV {K:c_} {H:Hp} {d:Dv} {vs:List V} (r:Reps K H [d] vs):∃ v,vs=[v]∧Rep K H d v:=by
 obtain ⟨v,us,rfl,r1,r2⟩:∃ v us,vs=v :: us∧Rep K H d v∧Reps K H [] us:=r
 cases (show us=[] from r2)
 exact ⟨v,rfl,r1⟩
theorem yX {K:c_} {H:Hp} {d d2:Dv} {vs:List V} (r:Reps K H [d,d2] vs):∃ v v2,vs=[v,v2]∧Rep K H d v∧Rep K H d2 v2:=by
 obtain ⟨v,us,rfl,r1,r2⟩:∃ v us,vs=v :: us∧Rep K H d v∧Reps K H [d2] us:=r
 obtain ⟨v2,rfl,r3⟩:=cV r2
 exact ⟨v,v2,rfl,r1,r3⟩
theorem yY (hg:Gl X "len") (hm:X.mg "len"=ck) (ha:FA X (e :: es) ga) (he:h_ (e :: es) X.env=(f_,eval e X.env) :: h_ es X.env:=by kernel_rfl) (hpl:(FP pos (h_ es X.env)).any (·.1)=f_:=by kernel_rfl):FE X (.Call (.Name "len" p) (e :: es) [] pos) (fB1 dg ga) :=
 cA (fg rS hg hm MN ha.h (by decide) (by decide) he hpl) fun σ H Q ρ E o=>⟨ρ,E,OutA.bind o fun ds vs H1 e1 rs o1=>by
  unfold dg at o1
  split at o1
  · rename_i z
    split at o1
    · rename_i hz
      obtain ⟨v,rfl,r⟩:=cV rs
      cases (show v=.str z from r)
      exact ⟨_,_,rfl,⟨bG hz,rfl⟩,o1 _ H1 (.refl H1) rfl⟩
    · exact o1.elim
  · rename_i xs
    obtain ⟨v,rfl,r⟩:=cV rs
    obtain ⟨a,ws,rfl,h1,h2⟩:=r.lstE
    exact ⟨_,_,rfl,.inl ⟨ws,SqL.of h1,rfl⟩,o1 _ H1 (.refl H1) (by rw [h2.length]; rfl)⟩
  · rename_i xs
    obtain ⟨v,rfl,r⟩:=cV rs
    obtain ⟨a,ws,rfl,h1,h2⟩:=r.tupE
    exact ⟨_,_,rfl,.inr ⟨ws,SqT.of h1,rfl⟩,o1 _ H1 (.refl H1) (by rw [h2.length]; rfl)⟩
  · rename_i ns
    obtain ⟨v,rfl,r⟩:=cV rs
    obtain ⟨a,rfl,h1⟩:=r.scrE
    exact ⟨_,_,rfl,.inl ⟨_,h1,rfl⟩,o1 _ H1 (.refl H1) (by rw [Gb]; rfl)⟩
  · exact o1.elim⟩
def iB:List Dv→Option (List Bool)
 | []=>a_ []
 | .bl b :: r=>(match iB r with | some bs=>a_ (b :: bs) | none=>ck)
 | _=>ck
def kc:List Dv→Option (Rs Dv)
 | [.lst xs]=>(match iB xs with | some bs=>a_ (.ok (.bl (bs.all id))) | none=>ck)
 | _=>ck
theorem mT {K:c_} {H:Hp}:∀ {ds:List Dv} {vs:List V} {us:List d_} {bs:List Bool},Reps K H ds vs→Vals vs us→iB ds=a_ bs→us=bs.map Gk
 | [],vs,us,bs,r,q,h=>by
  cases (show vs=[] from r)
  cases q
  cases h
  rfl
 | d :: ds,vs,us,bs,r,q,h=>by
  obtain ⟨v,ws,rfl,r1,r2⟩:∃ v us,vs=v :: us∧Rep K H d v∧Reps K H ds us:=r
  cases q with
  | cons q1 q2 =>
   cases d <;> try (cases h; done)
   rename_i b
   simp only [iB] at h
   cases hb:iB ds with
   | none=>rw [hb] at h; cases h
   | some bs' =>
    rw [hb] at h
    cases h
    cases (show v=.bl b from r1)
    cases q1
    rw [mT r2 q2 hb]
    rfl
theorem si:CallR X (.builtin "all") (fun xs H Q=>∃ a vs bs ds,xs=[.ref a]∧H a=a_ (.lst vs)∧Reps X.K H ds vs∧iB ds=a_ bs∧X.calm=e_∧Q (.bl (bs.all id)) H):=by
 intro pins s σ H xs us Q I r h
 obtain ⟨a,vs,bs,ds,rfl,h1,h2,h3,hc,q⟩:=h
 obtain ⟨u,rfl,ru⟩:=eC r
 cases ru
 obtain ⟨z,its,n,rv,hl,e⟩:=I.lstM h1
 have eb:=mT h2 rv h3
 subst eb
 have hL:s.heap.IsList a (bs.map Gk).toArray:=⟨_,e,rfl,_,rfl⟩
 have hlt:a < s.heap.objs.size:=v_ e
 refine call_all_walk (JZ hL ?_)
 refine ⟨s.heap.objs.size,[s.heap.objs.size,a],[s.heap.objs.size],(bs.map Gk).toArray.size,_,_,fun i=>(bs[i]?).getD e_,rfl,Walks.list (A:=X.A.in1) (I.ok.hd hc) _ a (FM hlt) (bs.map Gk).toArray,
  ⟨⟨_,z_ _ rfl,rfl,rfl⟩,hL.push _⟩,fun i v s' Q' E' hP hQ=>?_,fun h' tk hk=>?_⟩
 · have hP':(bs.map Gk)[i]?=a_ v:=by simpa using hP
   rw [FY] at hP'
   cases hb:bs[i]? with
   | none=>rw [hb] at hP'; cases hP'
   | some b =>
    rw [hb] at hP'
    cases hP'
    have hQ2:Q' ((bs[i]?).getD e_) s':=hQ
    rw [hb] at hQ2
    exact Hn hQ2
 · have e2:((pi (bs.map Gk).toArray.size).all fun i=>(bs[i]?).getD e_)=bs.all id:=by
    rw [uk,Gb]
    rw [Gp]
    simp only [Gy,Gr,id]
    constructor
    · intro hh b hb
      obtain ⟨i,hi,rfl⟩:=List.mem_iff_getElem.mp hb
      simpa [hi] using hh i hi
    · intro hh i hi
      simp only [xy hi,Option.getD_some]
      exact hh _ (KC hi)
   rw [e2]
   refine ⟨.bl _,H,I.kept fun b x eb=>hk b x (fun hm=>?_) (k_ _ eb),rfl,q⟩
   rw [GG.mp hm] at eb
   exact GO _ (v_ eb)
theorem yZ (hc:X.calm=e_) (hg:Gl X "all") (hm:X.mg "all"=ck) (ha:FA X (e :: es) ga) (he:h_ (e :: es) X.env=(f_,eval e X.env) :: h_ es X.env:=by kernel_rfl) (hpl:(FP pos (h_ es X.env)).any (·.1)=f_:=by kernel_rfl):FE X (.Call (.Name "all" p) (e :: es) [] pos) (fB1 kc ga) :=
 cA (fg si hg hm PyProof.Rows.boot_all ha.h (by decide) (by decide) he hpl) fun σ H Q ρ E o=>⟨ρ,E,OutA.bind o fun ds vs H1 e1 rs o1=>by
  unfold kc at o1
  split at o1
  · rename_i xs
    split at o1
    · rename_i bs hb
      obtain ⟨v,rfl,r⟩:=cV rs
      obtain ⟨a,ws,rfl,h1,h2⟩:=r.lstE
      exact ⟨a,ws,bs,xs,rfl,h1,h2,hb,hc,o1 _ H1 (.refl H1) rfl⟩
    · exact o1.elim
  · exact o1.elim⟩
def tyD:Dv→String
 | .non=>"NoneType"
 | .bl _=>"bool"
 | .int _=>"int"
 | .str _=>"str"
 | .tup _=>"tuple"
 | .lst _=>"list"
 | .scr _=>"list"
 | .exn _=>"object"
end
section
variable {X:Cx} {p pos apos cpos pT:Pos} {e a o:C_} {es:List C_} {ga:FnA} {fa fo:FnE}
theorem vC {K:c_} {H:Hp} {d:Dv} {v:V} (r:Rep K H d v) (hs:∀ ns,d≠.scr ns) (hx:∀ c,d≠.exn c):mK K H v (.type (tyD d)):=by
 cases d with
 | non=>cases (show v=.non from r); exact .non
 | bl b=>cases (show v=.bl b from r); exact .bl b
 | int b=>cases (show v=.int b from r); exact .int b
 | str b=>cases (show v=.str b from r); exact .str b
 | tup ds=>obtain ⟨a,xs,rfl,h,_⟩:=r.tupE; exact .tup h
 | lst ds=>obtain ⟨a,xs,rfl,h,_⟩:=r.lstE; exact .lst h
 | scr ns=>exact absurd rfl (hs ns)
 | exn c=>exact absurd rfl (hx c)
theorem sj (T:String):CallR X (.builtin "isinstance") (fun xs H Q=>∃ x t b,xs=[x,.ty T]∧mK X.K H x t∧HE X.K t (.type T)=a_ b∧Q (.bl b) H):=by
 intro pins s σ H xs us Q I r h
 obtain ⟨x,t,b,rfl,ty,hk,q⟩:=h
 obtain ⟨u,w',rfl,ru,rw'⟩:=uZ r
 cases (show w'=r_ T from rw')
 exact pk I ru ty hk fun tk=>⟨.bl b,H,I.tok tk,rfl,q⟩
def dh (tb:Dv→Bool):Dv→Option (Rs Dv)
 | .scr _=>ck
 | .exn _=>ck
 | d=>a_ (.ok (.bl (tb d)))
theorem mU {T:String} {tb:Dv→Bool} (hk:∀ K d,HE K (.type (tyD d)) (.type T)=a_ (tb d)) (hT:Go (b_ T)=a_ (.type T)) (hn:b_ T≠"__name__") (hdT:(b_ T == ("__debug__":Str))=f_)
 (hg:Gl X "isinstance") (hm:X.mg "isinstance"=ck) (hgT:Gl X (b_ T)) (hmT:X.mg (b_ T)=ck) (ha:FE X a fa)
 (hs1:h_ [a,.Name (b_ T) pT] X.env=(f_,eval a X.env) :: h_ [.Name (b_ T) pT] X.env:=by kernel_rfl) (hs2:h_ [.Name (b_ T) pT] X.env=(f_,eval (.Name (b_ T) pT) X.env) :: h_ [] X.env:=by kernel_rfl)
 (hpl:(FP pos (h_ [.Name (b_ T) pT] X.env)).any (·.1)=f_:=by kernel_rfl) :
 FE X (.Call (.Name "isinstance" p) [a,.Name (b_ T) pT] [] pos) (f1 (dh tb) fa) :=
 cA (fg (sj T) hg hm HS (df ha.h (df (oW (v:=.ty T) hgT hmT hT rfl hn hdT) kg hs2) hs1) (by decide) (by decide) hs1 hpl) fun σ H Q ρ E o=>⟨ρ,E,Out.bind o fun d v H1 e1 r o1=>by
  show ∃ x t b,[v,V.ty T]=[x,.ty T]∧_
  cases d with
  | scr ns=>exact o1.elim
  | exn c=>exact o1.elim
  | _=>exact ⟨v,_,_,rfl,vC r (fun ns z=>by cases z) (fun c z=>by cases z),hk X.K _,o1 _ H1 (.refl H1) rfl⟩⟩
def cL:Dv→Bool
 | .str _=>e_
 | _=>f_
theorem vD (K:c_) (d:Dv):HE K (.type (tyD d)) (.type "str")=a_ (cL d):=by cases d <;> kernel_rfl
def cx:Dv→Bool
 | .tup _=>e_
 | _=>f_
theorem vE (K:c_) (d:Dv):HE K (.type (tyD d)) (.type "tuple")=a_ (cx d):=by cases d <;> kernel_rfl
def bh:Dv→Bool
 | .bl _=>e_
 | _=>f_
theorem sr (K:c_) (d:Dv):HE K (.type (tyD d)) (.type "bool")=a_ (bh d):=by cases d <;> kernel_rfl
def fM (g:Str→List Dv→Option (Rs Dv)) (fo:FnE) (ga:FnA):FnE:=fun ρ=>bnd (fo ρ) fun x=>match x with
 | .str i=>bnd (ga ρ) fun xs=>g i xs
 | _=>ck
def lG (h:Str→Str→Bool):Str→List Dv→Option (Rs Dv)
 | x,[.str y]=>a_ (.ok (.bl (h x y)))
 | _,_=>ck
def Bs (h:Str→Str→Int):Str→List Dv→Option (Rs Dv)
 | x,[.str y]=>a_ (.ok (.int (h x y)))
 | _,_=>ck
def vF (h:Str→Str→Bool):V→List V→Hp→VK→Prop:=fun x xs H Q=>∃ i j,x=.str i∧xs=[.str j]∧Q (.bl (h i j)) H
def y0 (h:Str→Str→Int):V→List V→Hp→VK→Prop:=fun x xs H Q=>∃ i j,x=.str i∧xs=[.str j]∧Q (.int (h i j)) H
theorem Cr:MtR X "str.startswith" (vF G5):=by
 intro pins s σ H x xs v us Q I rx rs h
 obtain ⟨i,j,rfl,rfl,q⟩:=h
 obtain ⟨t,rfl⟩:=rx
 obtain ⟨u,rfl,ru⟩:=eC rs
 obtain ⟨t',rfl⟩:=ru
 exact SC.startswith ⟨.bl _,H,I,rfl,q⟩
theorem Ct:MtR X "str.endswith" (vF Ij):=by
 intro pins s σ H x xs v us Q I rx rs h
 obtain ⟨i,j,rfl,rfl,q⟩:=h
 obtain ⟨t,rfl⟩:=rx
 obtain ⟨u,rfl,ru⟩:=eC rs
 obtain ⟨t',rfl⟩:=ru
 exact SC.endswith ⟨.bl _,H,I,rfl,q⟩
theorem vG:MtR X "str.find" (y0 Txt.find):=by
 intro pins s σ H x xs v us Q I rx rs h
 obtain ⟨i,j,rfl,rfl,q⟩:=h
 obtain ⟨t,rfl⟩:=rx
 obtain ⟨u,rfl,ru⟩:=eC rs
 obtain ⟨t',rfl⟩:=ru
 exact SC.find ⟨.int _,H,I.tok _,⟨_,rfl⟩,q⟩
theorem vH {name:Str} {id:String} {r:V→List V→Hp→VK→Prop} {g:Str→List Dv→Option (Rs Dv)} (slot:Slot "str" name id) (hty:typeOf (.builtin id)=pure (.type "method_descriptor")) (hm:MtR X id r)
 (hg:∀ i ds vs H Q,Reps X.K H ds vs→Out X H (g i ds) Q→r (.str i) vs H Q) (ho:FE X o fo) (ha:FA X (e :: es) ga)
 (hbase:HY o name X.env (eval o X.env)=eval o X.env:=by kernel_rfl)
 (hfew:((FP cpos (h_ (e :: es) X.env)).all (fun x=>!x.1) && (Ho cpos (GB [] X.env)).all (fun x=>x.1.isSome)
   && t_ ((e :: es).length + ([]:List Hy).length + (if ([]:List Hy).isEmpty then 0 else 1) < 30))=e_:=by kernel_rfl)
 (hline:(apos.endLine == cpos.line)=e_:=by kernel_rfl) (hs:h_ (e :: es) X.env=(f_,eval e X.env) :: h_ es X.env:=by kernel_rfl) (hplain:(FP cpos (h_ es X.env)).any (·.1)=f_:=by kernel_rfl) :
 FE X (.Call (.Attribute o name apos) (e :: es) [] cpos) (fM g fo ga) :=
 cA (rY PySem.F.plainAttrs_str slot hty hm ho.h ha.h hbase hfew hline hs hplain) fun σ H Q ρ E o=>⟨ρ,E,Out.bind o fun d v H1 e1 rd o1=>by
  cases d <;> try exact (show False from o1).elim
  rename_i i
  cases (show v=.str i from rd)
  exact ⟨rfl,ρ,E.mono e1,OutA.bind o1 fun ds vs H2 e2 rs o2=>hg i ds vs H2 Q rs o2⟩⟩
theorem uw {h:Str→Str→Bool} (i:Str) (ds:List Dv) (vs:List V) (H:Hp) (Q:VK) (rs:Reps X.K H ds vs) (o:Out X H (lG h i ds) Q):vF h (.str i) vs H Q:=by
 unfold lG at o
 split at o
 · rename_i j
   obtain ⟨w,rfl,rw'⟩:=cV rs
   cases (show w=.str j from rw')
   exact ⟨i,j,rfl,rfl,o _ H (.refl H) rfl⟩
 · exact o.elim
theorem y1 {h:Str→Str→Int} (i:Str) (ds:List Dv) (vs:List V) (H:Hp) (Q:VK) (rs:Reps X.K H ds vs) (o:Out X H (Bs h i ds) Q):y0 h (.str i) vs H Q:=by
 unfold Bs at o
 split at o
 · rename_i j
   obtain ⟨w,rfl,rw'⟩:=cV rs
   cases (show w=.str j from rw')
   exact ⟨i,j,rfl,rfl,o _ H (.refl H) rfl⟩
 · exact o.elim
def Ec (K:c_):R2:=fun x y H Q=>∃ (a b:i_) (ns:List Int),x=.ref a∧y=.ref b∧SqL K H a (ns.map V.int)∧H b=a_ (.lst [])∧Q (.bl ns.isEmpty) H
theorem Cu (hu:X.A.units < cLine):OpR X (F9 .Eq) (Ec X.K):=by
 intro pins s σ H x y v u Q I rx ry h
 obtain ⟨a,b,ns,rfl,rfl,h1,h2,q⟩:=h
 cases rx
 cases ry
 obtain ⟨its,r,pl,hz⟩:=I.list h1
 obtain ⟨z2,its2,n2,r2,hl2,e2⟩:=I.lstM h2
 cases r2
 have hb:s.heap.IsList b #[]:=⟨_,e2,rfl,_,rfl⟩
 have hl:=r.length
 cases ns with
 | nil =>
  have e0:its=[]:=by cases its with | nil=>rfl | cons _ _=>simp at hl
  subst e0
  exact SeqAt.eq_listAt (e:=fun _=>e_) pl.isList hb rfl hu (fun i hi=>absurd hi (by simp)) (by first | exact ⟨.bl _,H,I,rfl,q⟩ | (refine ⟨.bl _,H,I,?_,q⟩; simp [RelV]))
 | cons n ns =>
  refine SeqAt.eq_list_lengthsAt pl.isList hb ?_ hu ⟨.bl _,H,I,rfl,q⟩
  have:0 < its.length:=by rw [← hl]; simp
  simp
  exact fun z=>by rw [z] at this; simp at this
def Bt:Dv→Dv→Option (Rs Dv)
 | .scr ns,.lst []=>a_ (.ok (.bl ns.isEmpty))
 | _,_=>ck
theorem Cv:GOp X (Ec X.K) Bt:=by
 intro dx dy x y H Q rx ry o
 unfold Bt at o
 split at o
 · rename_i ns
   obtain ⟨a,rfl,h1⟩:=rx.scrE
   obtain ⟨b,xs,rfl,h2,h3⟩:=ry.lstE
   cases (show xs=[] from h3)
   exact ⟨a,b,ns,rfl,rfl,h1,h2,o _ H (.refl H) rfl⟩
 · exact o.elim
end
end FD
namespace FD
open PySem
theorem y2:Go (b_ "str")=a_ (.type "str"):=PyProof.Rows.boot_str
theorem ss:Go (b_ "tuple")=a_ (.type "tuple"):=by decide +kernel
theorem vI:Go (b_ "bool")=a_ (.type "bool"):=by decide +kernel
end FD
namespace FD
open PySem PySem.Spec PyProof.Rows L2
mutual
def cy:Dv→PyData
 | .non=>.none
 | .bl b=>.bool b
 | .int i=>.int i
 | .str x=>.str x
 | .tup xs=>.tuple (toPys xs)
 | .lst xs=>.list (toPys xs)
 | .scr ns=>.list (ns.map PyData.int)
 | .exn _=>.dict []
def toPys:List Dv→List PyData
 | []=>[]
 | d :: ds=>cy d :: toPys ds
end
section
variable {X:Cx} {pins:List (i_×Obj)} {σ:L2.St} {H:Hp} {s:ge}
theorem jj:∀ {ns:List Int} {us:List d_},Vals (ns.map V.int) us→∃ as,ReadsAll s.heap us (ns.map PyData.int) as
 | [],us,r=>by cases r; exact ⟨_,.nil⟩
 | n :: ns,us,r=>by
  cases r with
  | cons r1 r2 =>
   obtain ⟨t,rfl⟩:=r1
   obtain ⟨as,q⟩:=jj r2
   exact ⟨_,.cons (.int n t) q⟩
mutual
theorem Rep.reads (I:Inv X pins σ H s):∀ (d:Dv) (v:V) (u:d_),Rep X.K H d v→RelV v u→(cy d).canLay0=e_→∃ as,Reads s.heap u (cy d) as
 | .non,v,u,r,q,hz0=>by cases (show v=.non from r); cases (show u=FX from q); exact ⟨_,.none⟩
 | .bl b,v,u,r,q,hz0=>by cases (show v=.bl b from r); cases (show u=Gk b from q); exact ⟨_,.bool b⟩
 | .int i,v,u,r,q,hz0=>by cases (show v=.int i from r); obtain ⟨t,rfl⟩:=(show ∃ t,u=Mp i t from q); exact ⟨_,.int i t⟩
 | .str x,v,u,r,q,hz0=>by cases (show v=.str x from r); obtain ⟨t,rfl⟩:=(show ∃ t,u=Ii x t from q); exact ⟨_,.str x t⟩
 | .tup ds,v,u,r,q,hz0=>by
  obtain ⟨a,xs,rfl,h,rs⟩:=r.tupE
  cases (show u=A_ a from q)
  obtain ⟨its,rv,⟨o,e,c,n,d⟩,hz⟩:=I.tuple (SqT.of h)
  obtain ⟨as,ra⟩:=Reps.reads I ds xs its rs rv (by simpa [cy,Gm] using hz0)
  exact ⟨as,.tuple e c d (by simpa using ra)⟩
 | .lst ds,v,u,r,q,hz0=>by
  obtain ⟨a,xs,rfl,h,rs⟩:=r.lstE
  cases (show u=A_ a from q)
  obtain ⟨z,its,n,rv,hl,e⟩:=I.lstM h
  obtain ⟨as,ra⟩:=Reps.reads I ds xs its rs rv (by simpa [cy,Gm] using hz0)
  exact ⟨a :: as,.list e rfl rfl (by simpa using ra)⟩
 | .scr ns,v,u,r,q,hz0=>by
  obtain ⟨a,rfl,h⟩:=r.scrE
  cases (show u=A_ a from q)
  obtain ⟨its,rv,⟨o,n,e,c,hd,d⟩,hz⟩:=I.list h
  obtain ⟨as,ra⟩:=jj (s:=s) rv
  exact ⟨a :: as,.list e c d (by simpa using ra)⟩
 | .exn c,v,u,r,q,hz0=>by simp [cy,Gm] at hz0
theorem Reps.reads (I:Inv X pins σ H s):∀ (ds:List Dv) (vs:List V) (us:List d_),Reps X.K H ds vs→Vals vs us→GQ (toPys ds)=e_→∃ as,ReadsAll s.heap us (toPys ds) as
 | [],vs,us,r,q,_=>by cases (show vs=[] from r); cases q; exact ⟨_,.nil⟩
 | d :: ds,vs,us,r,q,hz0=>by
  obtain ⟨v,ws,rfl,r1,r2⟩:∃ v us,vs=v :: us∧Rep X.K H d v∧Reps X.K H ds us:=r
  cases q with
  | cons q1 q2 =>
   have hz1:(cy d).canLay0=e_∧GQ (toPys ds)=e_:=by simpa [toPys,GQ] using hz0
   obtain ⟨as,a⟩:=Rep.reads I d v _ r1 q1 hz1.1
   obtain ⟨bs,b⟩:=Reps.reads I ds ws _ r2 q2 hz1.2
   exact ⟨_,.cons a b⟩
end
end
section
variable {X:Cx}
def okP (d:Dv):Bool:=SeqAt.shaped (cy d)
def rPy (X:Cx) (neg:Bool):R2:=fun x y H Q=>∃ dx dy,Rep X.K H dx x∧Rep X.K H dy y∧okP dx=e_∧okP dy=e_∧Q (.bl (if neg then !Ge (cy dx) (cy dy) else Ge (cy dx) (cy dy))) H
theorem y3 (hu:X.A.units + 64 < cLine):OpR X (F9 .Eq) (rPy X f_):=by
 intro pins s σ H x y v u Q I rx ry h
 obtain ⟨dx,dy,qx,qy,hx,hy,q⟩:=h
 obtain ⟨as,ra⟩:=Rep.reads I dx x v qx rx (GJ.mp hx).1
 obtain ⟨bs,rb⟩:=Rep.reads I dy y u qy ry (GJ.mp hy).1
 exact SeqAt.compareEq_shaped ra rb hx hy hu ⟨.bl _,H,I,rfl,q⟩
theorem y6 (hu:X.A.units + 64 < cLine):OpR X (F9 .NotEq) (rPy X e_):=by
 intro pins s σ H x y v u Q I rx ry h
 obtain ⟨dx,dy,qx,qy,hx,hy,q⟩:=h
 obtain ⟨as,ra⟩:=Rep.reads I dx x v qx rx (GJ.mp hx).1
 obtain ⟨bs,rb⟩:=Rep.reads I dy y u qy ry (GJ.mp hy).1
 exact SeqAt.compareNe_shaped ra rb hx hy hu ⟨.bl _,H,I,rfl,q⟩
def eqX (x y:Dv):Option (Rs Dv):=match eqS x y with
 | some b=>a_ (.ok (.bl b))
 | none=>if okP x && okP y then a_ (.ok (.bl (Ge (cy x) (cy y)))) else ck
def neX (x y:Dv):Option (Rs Dv):=match eqS x y with
 | some b=>a_ (.ok (.bl (!b)))
 | none=>if okP x && okP y then a_ (.ok (.bl (!Ge (cy x) (cy y)))) else ck
def Ed (X:Cx):R2:=fun x y H Q=>rEq x y H Q∨rPy X f_ x y H Q
def Ee (X:Cx):R2:=fun x y H Q=>rNe x y H Q∨rPy X e_ x y H Q
theorem y8 (hu:X.A.units + 64 < cLine):OpR X (F9 .Eq) (Ed X):=op_eq.or (y3 hu)
theorem Cw (hu:X.A.units + 64 < cLine):OpR X (F9 .NotEq) (Ee X):=op_ne.or (y6 hu)
theorem y9:GOp X (Ed X) eqX:=by
 intro dx dy x y H Q rx ry o
 unfold eqX at o
 split at o
 · rename_i b hb
   obtain ⟨h1,h2⟩:=ur rx ry hb
   exact .inl ⟨h1,by rw [h2]; exact o _ H (.refl H) rfl⟩
 · split at o
   · rename_i hc
     rw [l_] at hc
     exact .inr ⟨dx,dy,rx,ry,hc.1,hc.2,o _ H (.refl H) rfl⟩
   · exact o.elim
theorem Cy:GOp X (Ee X) neX:=by
 intro dx dy x y H Q rx ry o
 unfold neX at o
 split at o
 · rename_i b hb
   obtain ⟨h1,h2⟩:=ur rx ry hb
   exact .inl ⟨h1,by rw [h2]; exact o _ H (.refl H) rfl⟩
 · split at o
   · rename_i hc
     rw [l_] at hc
     exact .inr ⟨dx,dy,rx,ry,hc.1,hc.2,o _ H (.refl H) rfl⟩
   · exact o.elim
def ltX:Dv→Dv→Option (Rs Dv)
 | .int i,.int j=>a_ (.ok (.bl (t_ (i < j))))
 | .str x,.str y=>a_ (.ok (.bl (t_ (x.cps.toList < y.cps.toList))))
 | _,_=>ck
def Ef:R2:=fun x y H Q=>rI0 (fun i j=>.bl (t_ (i < j))) x y H Q∨∃ i j,x=.str i∧y=.str j∧Q (.bl (t_ (i.cps.toList < j.cps.toList))) H
theorem za:OpR X (F9 .Lt) Ef:=op_lt.or pe
theorem zb:GOp X Ef ltX:=by
 intro dx dy x y H Q rx ry o
 cases dx <;> cases dy <;> try exact (show False from o).elim
 · rename_i i j
   exact .inl ⟨i,j,rx,ry,o _ H (.refl H) rfl⟩
 · rename_i i j
   exact .inr ⟨i,j,rx,ry,o _ H (.refl H) rfl⟩
theorem ky:∀ (ps:List Str) (k:Nat),Vals (ps.map V.str) (strsFrom k ps)
 | [],_=>.nil
 | p :: ps,k=>.cons ⟨k,rfl⟩ (ky ps (k + 1))
theorem kz {K:c_} {H:Hp}:∀ ps:List Str,Reps K H (ps.map Dv.str) (ps.map V.str)
 | []=>rfl
 | p :: ps=>⟨.str p,ps.map V.str,rfl,rfl,kz ps⟩
def jk:Str→List Dv→Option (Rs Dv)
 | x,[.str y]=>if y.length≠0∧x.length≤100000∧(IH x y).length≤100000 then a_ (.ok (.lst ((IH x y).map Dv.str))) else ck
 | _,_=>ck
def ux:V→List V→Hp→VK→Prop:=fun x xs H Q=>∃ i j,x=.str i∧xs=[.str j]∧j.length≠0∧i.length≤sizeLine∧(IH i j).length≤sizeLine∧∀ p,H p=ck→Q (.ref p) (upd H p (.lst ((IH i j).map V.str)))
theorem su:MtR X "str.split" ux:=by
 intro pins s σ H x xs v us Q I rx rs h
 obtain ⟨i,j,rfl,rfl,hj,hi,hn,q⟩:=h
 obtain ⟨t,rfl⟩:=rx
 obtain ⟨u,rfl,ru⟩:=eC rs
 obtain ⟨t',rfl⟩:=ru
 have hy:(j.length == 0)=f_:=by simpa using hj
 have one:∀ {s':ge},s'={ s with heap:=s.heap.push { cls:=.type "list",data:=.seq [Ii i t].toArray } }→IH i j=[i]→EP X pins σ Q (.ref s.heap.objs.size) s':=fun e e2=>by
  subst e
  rw [e2] at q
  exact ⟨.ref _,_,I.lnew (its:=[Ii i t]) (ys:=[V.str i]) (t':=s.toks) (.cons ⟨t,rfl⟩ .nil) (by show 1≤sizeLine; decide),rfl,q _ I.fresh⟩
 cases h1:(t_ (i.length < j.length) || t_ (LA i < LA j))
 · cases hf:(FQ i j 0 i.length (i.length + 1)).isEmpty
   · have e2:IH i j=Builtin.Str.partsBetween i (FQ i j 0 i.length (i.length + 1)) j.length:=by
      unfold IH
      rw [if_neg (by rw [h1]; exact q_),if_neg (by rw [hf]; exact q_)]
     rw [e2] at q hn
     refine HL IP (Jd _ _ _) Kb (JL _ _) (meets_str_split_sep i j t t' h1 hy hf hi hn) ?_
     exact ⟨.ref _,_,I.lnew (t':=_) (ky _ _) (by rw [Gb]; exact hn),rfl,q _ I.fresh⟩
   · refine HL IP (Jd _ _ _) Kb (JL _ _) (meets_str_split_not_found i j t t' h1 hy hf) ?_
     exact one rfl (by unfold IH; rw [if_neg (by rw [h1]; exact q_),if_pos hf])
 · refine HL IP (Jd _ _ _) Kb (JL _ _) (meets_str_split_cannot_occur i j t t' h1) ?_
   exact one rfl (by unfold IH; rw [if_pos h1])
theorem vJ (i:Str) (ds:List Dv) (vs:List V) (H:Hp) (Q:VK) (rs:Reps X.K H ds vs) (o:Out X H (jk i ds) Q):ux (.str i) vs H Q:=by
 unfold jk at o
 split at o
 · rename_i j
   split at o
   · rename_i hc
     obtain ⟨w,rfl,rw'⟩:=cV rs
     cases (show w=.str j from rw')
     exact ⟨i,j,rfl,rfl,hc.1,bG hc.2.1,bG hc.2.2,fun p hp=>o _ _ (aq hp _) ⟨p,_,rfl,ao,kz _⟩⟩
   · exact o.elim
 · exact o.elim
def jM:List Dv→Option (List Str)
 | []=>a_ []
 | .str x :: r=>(match jM r with | some xs=>a_ (x :: xs) | none=>ck)
 | _=>ck
def gm:Str→List Dv→Option (Rs Dv)
 | x,[.lst ds]=>(match jM ds with
  | some ts=>if JoinOk x ts=e_ then a_ (.ok (.str (L_ x ts))) else ck
  | none=>ck)
 | _,_=>ck
def zc (K:c_):V→List V→Hp→VK→Prop:=fun x xs H Q=>∃ i a vs ds ts,x=.str i∧xs=[.ref a]∧H a=a_ (.lst vs)∧Reps K H ds vs∧jM ds=a_ ts∧JoinOk i ts=e_∧Q (.str (L_ i ts)) H
theorem jm {K:c_} {H:Hp}:∀ {ds:List Dv} {vs:List V} {us:List d_} {ts:List Str},Reps K H ds vs→Vals vs us→jM ds=a_ ts→∃ l:List (Str×Tok),us=strValues l∧l.map (·.1)=ts
 | [],vs,us,ts,r,q,h=>by
  cases (show vs=[] from r)
  cases q
  cases h
  exact ⟨[],rfl,rfl⟩
 | d :: ds,vs,us,ts,r,q,h=>by
  obtain ⟨v,ws,rfl,r1,r2⟩:∃ v us,vs=v :: us∧Rep K H d v∧Reps K H ds us:=r
  cases q with
  | cons q1 q2 =>
   cases d <;> try (cases h; done)
   rename_i b
   simp only [jM] at h
   cases hb:jM ds with
   | none=>rw [hb] at h; cases h
   | some bs' =>
    rw [hb] at h
    cases h
    cases (show v=.str b from r1)
    obtain ⟨t,rfl⟩:=q1
    obtain ⟨l,e1,e2⟩:=jm r2 q2 hb
    exact ⟨(b,t) :: l,by rw [e1]; rfl,by rw [FV,e2]⟩
theorem vK:MtR X "str.join" (zc X.K):=by
 intro pins s σ H x xs v us Q I rx rs h
 obtain ⟨i,a,vs,ds,ts,rfl,rfl,h1,h2,h3,h4,q⟩:=h
 obtain ⟨t,rfl⟩:=rx
 obtain ⟨u,rfl,ru⟩:=eC rs
 cases ru
 obtain ⟨z,its,n,rv,hl,e⟩:=I.lstM h1
 obtain ⟨l,e1,e2⟩:=jm h2 rv h3
 subst e1
 exact SC.join ⟨_,e,rfl,_,rfl⟩ e2 h4 fun t' k=>⟨.str _,H,I.tok _,⟨_,rfl⟩,q⟩
theorem zd (i:Str) (ds:List Dv) (vs:List V) (H:Hp) (Q:VK) (rs:Reps X.K H ds vs) (o:Out X H (gm i ds) Q):zc X.K (.str i) vs H Q:=by
 unfold gm at o
 split at o
 · rename_i es
   split at o
   · rename_i ts ht
     split at o
     · rename_i hj
       obtain ⟨w,rfl,rw'⟩:=cV rs
       obtain ⟨a,xs,rfl,h1,h2⟩:=rw'.lstE
       exact ⟨i,a,xs,es,ts,rfl,rfl,h1,h2,ht,hj,o _ H (.refl H) rfl⟩
     · exact o.elim
   · exact o.elim
 · exact o.elim
def sv:Str→List Dv→Option (Rs Dv)
 | x,[.str y]=>if y.length≠0∧x.length≤100000 then a_ (.ok (.tup [.str (Ha x y).1,.str (Ha x y).2.1,.str (Ha x y).2.2])) else ck
 | _,_=>ck
def ze:V→List V→Hp→VK→Prop:=fun x xs H Q=>∃ i j,x=.str i∧xs=[.str j]∧j.length≠0∧i.length≤sizeLine∧∀ p,H p=ck→Q (.ref p) (upd H p (.tup [.str (Ha i j).1,.str (Ha i j).2.1,.str (Ha i j).2.2]))
theorem vL:MtR X "str.partition" ze:=by
 intro pins s σ H x xs v us Q I rx rs h
 obtain ⟨i,j,rfl,rfl,hj,hi,q⟩:=h
 obtain ⟨t,rfl⟩:=rx
 obtain ⟨u,rfl,ru⟩:=eC rs
 obtain ⟨t',rfl⟩:=ru
 have hy:(j.length == 0)=f_:=by simpa using hj
 have fin:∀ (a b c:Str) (ta tb tc:Tok) (k:Nat),Ha i j=(a,b,c)→EP X pins σ Q (.ref s.heap.objs.size) { s with toks:=k,heap:=s.heap.push { cls:=.type "tuple",data:=.seq [Ii a ta,.str b tb,.str c tc].toArray } }:=fun a b c ta tb tc k e=>by
  rw [e] at q
  refine ⟨.ref _,_,I.laid (t':=k) (fun b u e=>k_ _ e) (m_ _) ?_,rfl,q _ I.fresh⟩
  exact ⟨by show 3≤sizeLine; decide,[Ii a ta,.str b tb,.str c tc],.cons ⟨_,rfl⟩ (.cons ⟨_,rfl⟩ (.cons ⟨_,rfl⟩ .nil)),⟨_,z_ _ rfl,rfl,_,rfl⟩⟩
 refine HL Ks (Jd _ _ _) F.entry_str_partition (F.args_str_partition_2 _ _) (meets_str_partition i j t t' hy hi) ?_
 cases ho:FQ i j 0 i.length 1 with
 | nil=>exact fin _ _ _ _ _ _ _ (by unfold Ha; rw [ho])
 | cons k r=>exact fin _ _ _ _ _ _ _ (by unfold Ha; rw [ho])
theorem zf (i:Str) (ds:List Dv) (vs:List V) (H:Hp) (Q:VK) (rs:Reps X.K H ds vs) (o:Out X H (sv i ds) Q):ze (.str i) vs H Q:=by
 unfold sv at o
 split at o
 · rename_i j
   split at o
   · rename_i hc
     obtain ⟨w,rfl,rw'⟩:=cV rs
     cases (show w=.str j from rw')
     exact ⟨i,j,rfl,rfl,hc.1,bG hc.2,fun p hp=>o _ _ (aq hp _) ⟨p,_,rfl,ao,⟨_,_,rfl,rfl,_,_,rfl,rfl,_,_,rfl,rfl,rfl⟩⟩⟩
   · exact o.elim
 · exact o.elim
variable {p pos:Pos} {e:C_} {es:List C_} {ga:FnA}
def eK:List Dv→Option (Rs Dv)
 | [.lst xs]=>a_ (.ok (.tup xs))
 | [.tup xs]=>a_ (.ok (.tup xs))
 | _=>ck
theorem sw (hg:Gl X "tuple") (hm:X.mg "tuple"=ck) (ha:FA X (e :: es) ga) (he:h_ (e :: es) X.env=(f_,eval e X.env) :: h_ es X.env:=by kernel_rfl) (hpl:(FP pos (h_ es X.env)).any (·.1)=f_:=by kernel_rfl):FE X (.Call (.Name "tuple" p) (e :: es) [] pos) (fB1 eK ga) :=
 cA (km jH hg hm (by decide +kernel) ha.h (by decide) (by decide) he hpl) fun σ H Q ρ E o=>⟨ρ,E,OutA.bind o fun ds vs H1 e1 rs o1=>by
  unfold eK at o1
  split at o1
  · rename_i xs
    obtain ⟨v,rfl,r⟩:=cV rs
    obtain ⟨a,ws,rfl,h1,h2⟩:=r.lstE
    exact ⟨a,ws,rfl,.inl ⟨SqL.of h1,fun l hl=>o1 _ _ (aq hl _) ⟨l,ws,rfl,ao,Reps.mono (aq hl _) _ _ h2⟩⟩⟩
  · rename_i xs
    obtain ⟨v,rfl,r⟩:=cV rs
    obtain ⟨a,ws,rfl,h1,h2⟩:=r.tupE
    exact ⟨a,ws,rfl,.inr ⟨SqT.of h1,o1 _ H1 (.refl H1) ⟨a,ws,rfl,h1,h2⟩⟩⟩
  · exact o1.elim⟩
end
section
variable {X:Cx} {apos cpos:Pos} {e o:C_} {es:List C_} {ga:FnA} {fo:FnE}
def Bu (x:Dv):List Dv→Nat→Option Nat
 | [],_=>ck
 | y :: ys,k=>if eqF y x then a_ k else Bu x ys (k + 1)
def Bv:List Dv→List Dv→Option (Rs Dv)
 | xs,[x]=>if eE x && xs.all eE && t_ (xs.length≤100000) then (match Bu x xs 0 with | some j=>a_ (.ok (.int j)) | none=>ck) else ck
 | _,_=>ck
theorem pO {K:c_} {H:Hp} {x:Dv} {u:V} (q:Rep K H x u) (hx:eE x=e_):∀ {xs:List Dv} {vs:List V} {k j:Nat},Reps K H xs vs→xs.all eE=e_→Bu x xs k=a_ j →
 k≤j∧(∃ v,vs[j - k]?=a_ v∧eqV v u=e_)∧∀ (m:Nat) v,m < j - k→vs[m]?=a_ v→eqV v u=f_
 | [],vs,k,j,r,_,h=>by cases h
 | y :: ys,vs,k,j,r,hf,h=>by
  obtain ⟨v,ws,rfl,r1,r2⟩:∃ v us,vs=v :: us∧Rep K H y v∧Reps K H ys us:=r
  rw [G4,l_] at hf
  unfold Bu at h
  have e1:=pM r1 q hf.1 hx
  split at h
  · rename_i hh
    cases h
    refine ⟨m_ _,⟨v,by simp,by rw [e1]; exact hh⟩,fun m w hm=>by omega⟩
  · rename_i hh
    obtain ⟨a,⟨w,b1,b2⟩,c⟩:=pO q hx r2 hf.2 h
    refine ⟨by omega,⟨w,?_,b2⟩,fun m z hm hz=>?_⟩
    · have e:j - k=(j - (k + 1)) + 1:=by omega
      rw [e,IL]
      exact b1
    · cases m with
      | zero =>
       have:z=v:=by simpa using hz.symm
       subst this
       rw [e1]
       simpa using hh
      | succ m=>exact c m z (by omega) (by simpa using hz)
def zg:V→List V→Hp→VK→Prop:=fun x xs H Q=>∃ a vs y j,x=.ref a∧xs=[y]∧H a=a_ (.lst vs)∧el y=e_∧vs.all el=e_∧vs.length≤100000∧(∃ v,vs[j]?=a_ v∧eqV v y=e_)∧(∀ (m:Nat) v,m < j→vs[m]?=a_ v→eqV v y=f_)∧Q (.int j) H
theorem uy {y:V} {vs:List V} {its:List d_} (r:Vals vs its) (f:vs.all el=e_) {m:Nat} {v:V} (h:vs[m]?=a_ v):∃ hm:m < its.length,eqU y its[m]=eqV v y:=by
 obtain ⟨u,hu,ru⟩:=r.get h
 obtain ⟨hm,e⟩:=E_.mp hu
 refine ⟨hm,?_⟩
 rw [e]
 exact mO ru (Gy.mp f v (Jq h))
theorem sx:MtR X "list.index" zg:=by
 intro pins s σ H x xs v us Q I rx rs h
 obtain ⟨a,vs,y,j,rfl,rfl,h1,fy,fv,hz,⟨w,hw,hit⟩,hno,q⟩:=h
 cases rx
 obtain ⟨u,rfl,ru⟩:=eC rs
 obtain ⟨z,its,n,rv,hl,e⟩:=I.lstM h1
 obtain ⟨hj,ej⟩:=uy (y:=y) rv fv hw
 refine HL Kt ⟨_,e,rfl⟩ PySem.F.entry_list_index (PySem.F.args_list_index_2 _ _) (SeqAt.list_indexAt a its.toArray n ck #[] u (eqU y) j (by simpa using hj) (by omega) (by simpa [ej] using hit) fun m hm hlt=>?_) ⟨e,fun t ht=>dH ru fy rv fv t (by simpa using ht),⟨.int j,H,I.tok _,⟨_,rfl⟩,q⟩⟩
 have hm':m < vs.length:=by rw [rv.length]; simpa using hm
 obtain ⟨hm2,em⟩:=uy (y:=y) rv fv (xy hm')
 have:=hno m vs[m] hlt (xy hm')
 simpa [em] using this
def fML (g:List Dv→List Dv→Option (Rs Dv)) (fo:FnE) (ga:FnA):FnE:=fun ρ=>bnd (fo ρ) fun x=>match x with
 | .lst i=>bnd (ga ρ) fun xs=>g i xs
 | _=>ck
theorem sy (ho:FE X o fo) (ha:FA X (e :: es) ga)
 (hbase:HY o "index" X.env (eval o X.env)=eval o X.env:=by kernel_rfl)
 (hfew:((FP cpos (h_ (e :: es) X.env)).all (fun x=>!x.1) && (Ho cpos (GB [] X.env)).all (fun x=>x.1.isSome)
   && t_ ((e :: es).length + ([]:List Hy).length + (if ([]:List Hy).isEmpty then 0 else 1) < 30))=e_:=by kernel_rfl)
 (hline:(apos.endLine == cpos.line)=e_:=by kernel_rfl) (hs:h_ (e :: es) X.env=(f_,eval e X.env) :: h_ es X.env:=by kernel_rfl) (hplain:(FP cpos (h_ es X.env)).any (·.1)=f_:=by kernel_rfl) :
 FE X (.Call (.Attribute o "index" apos) (e :: es) [] cpos) (fML Bv fo ga) :=
 cA (rY II Kt PySem.F.type_list_index sx ho.h ha.h hbase hfew hline hs hplain) fun σ H Q ρ E o=>⟨ρ,E,Out.bind o fun d v H1 e1 rd o1=>by
  cases d <;> try exact (show False from o1).elim
  rename_i ds
  obtain ⟨a,vs,rfl,h1,h2⟩:=rd.lstE
  refine ⟨.inl ⟨rfl,vs,SqL.of h1⟩,ρ,E.mono e1,OutA.bind o1 fun es ws H2 e2 rs o2=>?_⟩
  unfold Bv at o2
  split at o2
  · rename_i x
    split at o2
    · rename_i hc
      rw [l_,l_] at hc
      split at o2
      · rename_i j hj
        obtain ⟨w,rfl,rw'⟩:=cV rs
        have h2':=Reps.mono e2 _ _ h2
        obtain ⟨c1,c2,c3⟩:=pO rw' hc.1.1 h2' hc.1.2 hj
        refine ⟨a,vs,w,j,rfl,rfl,e2 _ _ h1,jK rw' hc.1.1,ie h2' hc.1.2,by rw [h2.length]; exact of_decide_eq_true hc.2,by simpa using c2,by simpa using c3,o2 _ H2 (.refl H2) rfl⟩
      · exact o2.elim
    · exact o2.elim
  · exact o2.elim⟩
end
structure FG (X:Cx) (tg:C_) (b:Dv→Ev→Option Ev):Prop where
 h:∀ (pins:List (i_×Obj)) (s:ge) (σ:L2.St) (H:Hp) (v:V) (u:d_) (d:Dv) (ρ ρ':Ev),Inv X pins σ H s→RelV v u→Rep X.K H d v→Envs X.K H σ ρ→b d ρ=a_ ρ' →
  u_ (x_ X.prog X.w) X.A (Kl tg X.env u) (fun _ s'=>∃ σ' H',Inv X pins σ' H' s'∧Same H H'∧Envs X.K H' σ' ρ') X.xe s
def gN (i:Nat):Dv→Ev→Option Ev:=fun d ρ=>a_ (ρ.set i (a_ d))
def gP (i j:Nat):Dv→Ev→Option Ev:=fun d ρ=>match d with
 | .tup [a,c]=>a_ ((ρ.set i (a_ a)).set j (a_ c))
 | _=>ck
section
variable {X:Cx} {pos p1 p2:Pos}
theorem vM (i:Nat) {x:Str} (hN:X.N.Nodup) (hi:X.N[i]?=a_ x) (hx:Loc X.env.scope x) (hf:X.fn x=e_∨X.env.scope.names.lookup x=a_ .local):FG X (.Name x pos) (gN i) :=
 ⟨fun pins s σ H v u d ρ ρ' I r rd E e=>by
  cases e
  exact thn (gF hN hi hx hf pins s σ H v u (fun σ' H'=>H'=H∧σ'=σ.set i (a_ v)) I r ⟨rfl,rfl⟩) fun _ s' ⟨σ',H',I',e1,e2⟩=>by
   subst e1 e2
   exact ⟨_,_,I',.refl _,E.set rd⟩⟩
theorem vN (i j:Nat) {x y:Str} {k:Nat} (hc:X.calm=e_) (hN:X.N.Nodup) (hi:X.N[i]?=a_ x) (hx:Loc X.env.scope x) (hf:X.fn x=e_∨X.env.scope.names.lookup x=a_ .local)
 (hj:X.N[j]?=a_ y) (hy:Loc X.env.scope y) (hg:X.fn y=e_∨X.env.scope.names.lookup y=a_ .local)
 (hs1:(Gz [.Name x p1,.Name y p2] X.env).map (·.2)=Kl (.Name x p1) X.env :: (Gz [.Name y p2] X.env).map (·.2):=by kernel_rfl) (hs2:(Gz [.Name y p2] X.env).map (·.2)=Kl (.Name y p2) X.env :: (Gz [] X.env).map (·.2):=by kernel_rfl)
 (hn:(Gz [.Name x p1,.Name y p2] X.env).length=2:=by kernel_rfl) (hst:(Gz [.Name x p1,.Name y p2] X.env).findIdx? (·.1)=ck:=by kernel_rfl):FG X (.Tuple [.Name x p1,.Name y p2] k pos) (gP i j) :=
 ⟨fun pins s σ H v u d ρ ρ' I r rd E e=>by
  unfold gP at e
  split at e
  · rename_i a c
    cases e
    obtain ⟨ad,xs,rfl,h1,h2⟩:=rd.tupE
    obtain ⟨va,vc,rfl,ra,rc⟩:=yX h2
    refine thn (yg (n:=2) hc (mF (gF (i:=i) hN hi hx hf) (mF (gF (i:=j) hN hj hy hg) uV hs2) hs1) hn hst pins s σ H _ u (fun σ' H'=>H'=H∧σ'=(σ.set i (a_ va)).set j (a_ vc)) I r ⟨ad,_,rfl,SqT.of h1,rfl,va,[vc],rfl,vc,[],rfl,rfl,rfl,rfl⟩) fun _ s' ⟨σ',H',I',e1,e2⟩=>?_
    subst e1 e2
    exact ⟨_,_,I',.refl _,(E.set ra).set rc⟩
  · cases e⟩
end
structure WkG (K:c_) (J:It) (ds:List Dv) (H0:Hp):Prop where
 go:∀ i H,Same H0 H→i < ds.length→J.go i H
 stop:∀ H,Same H0 H→J.stop ds.length H
 yld:∀ i H x H',Same H0 H→i < ds.length→J.yld i H x H'→Same H H'∧∃ d,ds[i]?=a_ d∧Rep K H' d x
theorem Wk.toG {K:c_} {J:It} {ds:List Dv} {H0:Hp} (w:Wk K J ds H0):WkG K J ds H0 :=
 ⟨w.go,w.stop,fun i H x H' e hi y=>by
  obtain ⟨rfl,d,h1,h2⟩:=w.yld i H x H' e hi y
  exact ⟨.refl _,d,h1,h2⟩⟩
def OutG (X:Cx) (H:Hp) (o:Option (Rs (List Dv))) (R:It→Hp→Prop):Prop:=match o with
 | none=>False
 | some (.exc c)=>XW X c H
 | some (.ok ds)=>∀ J H',Same H H'→WkG X.K J ds H'→R J H'
theorem OutG.mono {X:Cx} {H H':Hp} {R:It→Hp→Prop} (e:Same H H'):∀ {o:Option (Rs (List Dv))},OutG X H o R→OutG X H' o R
 | none,h=>h
 | some (.exc _),h=>XW.mono h e
 | some (.ok _),h=>fun v H1 e1 r=>h v H1 (e.trans e1) r
structure FIG (X:Cx) (tg iter:C_) (f:FnA):Prop where
 h:PI X tg iter fun σ H R=>∃ ρ,Envs X.K H σ ρ∧OutG X H (f ρ) R
theorem FI.toG {X:Cx} {tg iter:C_} {f:FnA} (h:FI X tg iter f):FIG X tg iter f :=
 ⟨fun pins s σ H R I ⟨ρ,E,o⟩=>h.h pins s σ H R I ⟨ρ,E,by
  match hf:f ρ,o with
  | some (.exc c),o=>exact o
  | some (.ok ds),o=>exact fun J H' e w=>o J H' e w.toG⟩⟩
def fD (m:Nat) (cs:List (Str×Nat)) (ρ:Ev):Ev:=o_ m ck ++ cs.map fun c=>(ρ[c.2]?).join
def hZ (b:Dv→Ev→Option Ev) (tst:Option FnB) (elt:FnE) (cap:Ev):List Dv→Option (List Dv)
 | []=>a_ []
 | d :: ds=>match b d cap with
  | none=>ck
  | some ρ=>match (match tst with | none=>(a_ (.ok e_):Option (Rs Bool)) | some t=>t ρ) with
   | some (.ok e_)=>(match elt ρ with
    | some (.ok y)=>(match hZ b tst elt cap ds with | some ys=>a_ (y :: ys) | none=>ck)
    | _=>ck)
   | some (.ok f_)=>hZ b tst elt cap ds
   | _=>ck
structure Cz (osc scope:GK) (cs:List (Str×Nat)) (N:List Str):Prop where
 kind:scope.kind=.function
 cell:∀ y∈scope.names,y.2≠.cell
 names:∀ y∈scope.names,y.2=.local→scope.names.lookup y.1=a_ .local
 free:∀ y∈scope.names,y.2=.free→osc.names.lookup y.1=a_ .cell∨osc.names.lookup y.1=a_ .free
 caps:∀ c∈cs,N[c.2]?=a_ c.1∧scope.names.lookup c.1=a_ .free
def kA (m:Nat) (cs:List (Str×Nat)) (σ:L2.St):L2.St:=o_ m ck ++ cs.map fun c=>(σ[c.2]?).join
theorem kB {α:Type} {m i:Nat} {v:α} {l:List (Option α)} (h:(o_ m (ck:Option α) ++ l)[i]?=a_ (a_ v)):∃ k,i=m + k∧l[k]?=a_ (a_ v):=by
 by_cases hi:i < m
 · rw [Hi (by simpa using hi),HI,if_pos hi] at h
   cases h
 · refine ⟨i - m,by omega,?_⟩
   rw [GR (by simpa using hi)] at h
   simpa using h
theorem pP {K:c_} {H:Hp} {σ:L2.St} {ρ:Ev} (m:Nat) (cs:List (Str×Nat)) (E:Envs K H σ ρ):Envs K H (kA m cs σ) (fD m cs ρ):=by
 refine ⟨by simp [kA,fD],fun i d h=>?_⟩
 obtain ⟨k,rfl,hk⟩:=kB h
 rw [FY] at hk
 cases hc:cs[k]? with
 | none=>rw [hc] at hk; simp at hk
 | some c =>
  rw [hc] at hk
  simp only [HU,IV] at hk
  have h2:ρ[c.2]?=a_ (a_ d):=by
   cases q:ρ[c.2]? with
   | none=>rw [q] at hk; simp at hk
   | some o=>rw [q] at hk; simp at hk; rw [hk]
  obtain ⟨v,h3,h4⟩:=E.at' c.2 d h2
  refine ⟨v,?_,h4⟩
  unfold kA
  rw [GR (by simp)]
  simp only [He,Kz,FY,hc,HU,h3]
  rfl
theorem kG {prog:n_} {w:y_} {A:w_} {R:LS→ge→Prop} {s:ge} {elt target iter:C_} {ifs:List C_} {scope:GK} {pos:Pos} {it acc:d_} {env:Env} (I:Nat→ge→Prop)
 (turn:∀ n s,I n s→u_ (x_ prog w) A (pyNext it) (fun r s₁=>match r with
   | none=>R (.ok .next) s₁
   | some v=>u_ (x_ prog w) A (Js target it v) (fun _ s₀=>u_ (x_ prog w) A (Kl target env v) (fun _ s₂ =>
    u_ (x_ prog w) A (forIn ifs e_ fun c r=>if r=e_ then do let ok ← isTrue c env (eval c env); pure (K4 ok) else pure (K4 r)) (fun ok s₃ =>
     if ok=e_ then u_ (x_ prog w) A (eval elt env) (fun x s₄ =>
      u_ (x_ prog w) A (call (.builtin "list.append") [acc,x]) (fun _ s₅=>∃ m,m < n∧I m s₅) (KI (x_ prog w) A env fun e s'=>R (.error e) s') s₄) (KI (x_ prog w) A env fun e s'=>R (.error e) s') s₃
     else ∃ m,m < n∧I m s₃) (KI (x_ prog w) A env fun e s'=>R (.error e) s') s₂) (KI (x_ prog w) A env fun e s'=>R (.error e) s') s₀) (KI (x_ prog w) A env fun e s'=>R (.error e) s') s₁) (KI (x_ prog w) A env fun e s'=>R (.error e) s') s)
 (n:Nat) (h:I n s) :
 H_ (x_ prog w) A (.compLoop (.ListComp elt [⟨target,iter,ifs,0⟩] scope pos) 0 it acc env) R s:=by
 refine codeAny_loop rfl I (fun n s hI=>?_) n h
 show u_ _ A ((compTurn (.ListComp elt [⟨target,iter,ifs,0⟩] scope pos) 0 it acc env).onRaise (fun x=>do Mm x env; theTreesLotGoes x)) _ _ s
 refine wpAny_noted ?_
 rw [compTurn_list]
 refine g_ (wpAny_standAt (g_ (FU (turn n s hI) (fun r s₁ h₁=>?_) fun _ _ h'=>h')))
 cases r with
 | none=>exact j_ h₁
 | some v =>
  refine g_ (FU h₁ (fun _ s₀ h₀=>?_) fun _ _ h'=>h')
  refine g_ (FU h₀ (fun _ s₂ h₂=>g_ (FU h₂ (fun ok s₃ h₃=>?_) fun _ _ h'=>h')) fun _ _ h'=>h')
  cases ok with
  | false =>
   rw [if_neg q_] at h₃
   first
    | exact g_ (j_ (j_ ⟨rfl,h₃⟩))
    | exact j_ ⟨rfl,h₃⟩
    | (show u_ _ _ (again _) _ _ _; exact j_ ⟨rfl,h₃⟩)
  | true =>
   rw [if_pos rfl] at h₃
   first
    | exact g_ (g_ (FU h₃ (fun x s₄ h₄=>g_ (FU h₄ (fun _ s₅ h₅=>j_ (j_ ⟨rfl,h₅⟩)) fun _ _ h'=>h')) fun _ _ h'=>h'))
    | exact g_ (FU h₃ (fun x s₄ h₄=>g_ (FU h₄ (fun _ s₅ h₅=>j_ ⟨rfl,h₅⟩) fun _ _ h'=>h')) fun _ _ h'=>h')
def bj (m:Nat) (cs:List (Str×Nat)) (src:FnA) (b:Dv→Ev→Option Ev) (tst:Option FnB) (elt:FnE):FnE:=fun ρ=>bnd (src ρ) fun ds=>match hZ b tst elt (fD m cs ρ) ds with
 | some ys=>if ys.length≤100000∧ds.length≤100000 then a_ (.ok (.lst ys)) else ck
 | none=>ck
theorem CB {m:Nat} {cs:List (Str×Nat)} {src:FnA} {b:Dv→Ev→Option Ev} {tst:Option FnB} {fe:FnE} {ρ:Ev} {o:Rs Dv} (h:bj m cs src b tst fe ρ=a_ o) :
 (∃ c,src ρ=a_ (.exc c)∧o=.exc c)∨∃ ds ys,src ρ=a_ (.ok ds)∧hZ b tst fe (fD m cs ρ) ds=a_ ys∧ds.length≤100000∧ys.length≤100000∧o=.ok (.lst ys):=by
 unfold bj at h
 match hf:src ρ with
 | none=>rw [hf] at h; cases h
 | some (.exc c)=>rw [hf] at h; cases h; exact .inl ⟨c,rfl,rfl⟩
 | some (.ok ds) =>
  rw [hf] at h
  dsimp only [bnd] at h
  match hm:hZ b tst fe (fD m cs ρ) ds with
  | none=>rw [hm] at h; cases h
  | some ys =>
   rw [hm] at h
   dsimp only at h
   split at h
   · rename_i hl
     cases h
     exact .inr ⟨ds,ys,rfl,hm,hl.2,hl.1,rfl⟩
   · cases h
theorem sA (cs:List (Str×Nat)) (ρ:Ev) (d:Dv) (ρ':Ev) (h:gN 0 d (fD 1 cs ρ)=a_ ρ'):fgt [0] ρ'=fD 1 cs ρ:=by
 cases h
 rfl
theorem zh (cs:List (Str×Nat)) (ρ:Ev) (d:Dv) (ρ':Ev) (h:gP 0 1 d (fD 2 cs ρ)=a_ ρ'):fgt [0,1] ρ'=fD 2 cs ρ:=by
 unfold gP at h
 split at h
 · cases h
   rfl
 · cases h
def Ite (K:c_) (a:i_):It :=
 ⟨fun i H=>∃ xs x,SqL K H a xs∧xs[i]?=a_ x,fun i H v H'=>∃ p x,v=.ref p∧H p=ck∧H'=upd H p (.tup [.int i,x])∧∀ xs,SqL K H a xs→xs[i]?=a_ x,fun i H=>∃ xs,SqL K H a xs∧xs.length≤i⟩
theorem pQ {P:n_} {w:y_} {K:c_} {es:List C_} {k:Nat} {pos:Pos} (a e it:i_) (hne:e≠it):ue P w K (.Tuple es k pos) (Ite K a) [e,it] e (fun i h=>(∃ old,IsEnum h e it i old)∧h.IsListIter it a i) where
 mem:=by simp
 obj:=fun i h st b hb=>by
  obtain ⟨⟨old,he⟩,o,e2,c,d⟩:=st
  have hb':b=e∨b=it:=by simpa using hb
  rcases hb' with rfl | rfl
  · exact ⟨_,he,fun v z=>by cases z⟩
  · exact ⟨o,e2,fun v z=>by rw [d] at z; cases z⟩
 keep:=fun i h h' st kk=>by
  obtain ⟨⟨old,he⟩,st2⟩:=st
  exact ⟨⟨old,kk e (by simp) _ he⟩,st2.at fun o ee=>kk it (by simp) o ee⟩
 item:=by
  intro X hP hw hK hc i pins s σ H E I hf st hg
  subst hP hw hK
  obtain ⟨xs,x,hq,hx⟩:=hg
  obtain ⟨its,rv,p,hz⟩:=I.list hq
  obtain ⟨u,hu,ru⟩:=rv.get hx
  obtain ⟨⟨old,he⟩,st2⟩:=st
  obtain ⟨f0,f1,f2,f3,f4,f5⟩:=hf e (by simp)
  obtain ⟨g0,g1,g2,g3,g4,g5⟩:=hf it (by simp)
  refine wpAny_pyNext_enum_item he st2 p.isList (x:=u) (by simpa using hu) hne fun h' eo st' tp sz kk=>?_
  refine ⟨_,rfl,wpAny_letOwnedTupleGo_enum eo fun h2 he2 sb2=>?_⟩
  have hp:H s.heap.objs.size=ck:=I.hok.fresh (m_ _)
  have elt:e < s.heap.objs.size:=v_ he
  have k2:∀ b o,b ∉ [e,it]→s.heap.get? b=a_ o→h2.get? b=a_ o:=fun b o hb q=>sb2.extBut b o (fun z=>hb (by simp [z])) (kk b o (fun z=>hb (by simp [z])) (fun z=>hb (by simp [z])) q)
  have tp2:h2.get? s.heap.objs.size=a_ { cls:=.type "tuple",data:=.seq #[.int i s.toks,u] }:=sb2.extBut _ _ (KU elt) tp
  have I1:Inv X pins σ (upd H s.heap.objs.size (.tup [.int i,x])) { s with heap:=h2,toks:=s.toks + 1 }:=by
   have nt:∀ b u,H b=a_ u→b ∉ [e,it]:=fun b u q z=>by
    have z':b=e∨b=it:=by simpa using z
    rcases z' with rfl | rfl
    · rw [f0] at q; cases q
    · rw [g0] at q; cases q
   refine I.step (g':=s.gens) (d':=s.drawn) (ch:=[e,it]) (fun b hb=>?_) (fun b o _ _ hcb q _=>k2 b o hcb q) (fun b o _ _ hcb q _=>⟨o.slots,k2 b o hcb q⟩) (fun b o hcb q n=>?_) (fun b o hcb q=>⟨o,k2 b o hcb q⟩)
    (fun b ys q=>by rw [au (av q hp)]; exact q) (fun b o ys q=>by rw [au (av q hp)]; exact q) (fun b ps q=>⟨#[],by rw [au (av q hp),q]; simp⟩) (fun m hm=>?_) (fun b u2 q=>?_) I.bare
   · have z':b=e∨b=it:=by simpa using hb
     rcases z' with rfl | rfl
     · exact ⟨f3,f1,f4,f5⟩
     · exact ⟨g3,g1,g4,g5⟩
   · rw [au (FM (v_ q))]; exact n
   · obtain ⟨o,es',ep,ho,r⟩:=hm
     exact ⟨o,es',ep,k2 _ o (fun z=>by
      have z':X.env.locals=e∨X.env.locals=it:=by simpa using z
      rcases z' with z' | z'
      · exact f1 z'.symm
      · exact g1 z'.symm) ho,r⟩
   · by_cases hb:b=s.heap.objs.size
     · subst hb
       rw [ao] at q
       cases q
       exact ⟨by show 2≤sizeLine; decide,[.int i s.toks,u],.cons ⟨_,rfl⟩ (.cons ru .nil),⟨_,tp2,rfl,_,rfl⟩⟩
     · rw [au hb] at q
       refine (I.hok b u2 q).stay (fun c v hcv qq=>k2 c v ?_ qq) (fun c qq=>by rw [au (av qq hp)]; exact qq) fun c ys qq=>by rw [au (av qq hp)]; exact qq
       rcases hcv with rfl | hcv
       · exact nt _ _ q
       · exact nt _ _ hcv
  refine ⟨.ref s.heap.objs.size,_,I1,rfl,⟨_,x,rfl,hp,rfl,fun zs hy=>by rw [I.list_inj hy hq]; exact hx⟩,⟨⟨_,by simpa using he2⟩,?_⟩,fun b hb=>?_⟩
  · exact st'.at fun o q=>sb2.extBut _ _ (IX hne) q
  · have z':b=e∨b=it:=by simpa using hb
    rcases z' with rfl | rfl
    · rw [au (FM elt)]; exact f0
    · obtain ⟨o,q,_⟩:=id st2
      rw [au (FM (v_ q))]; exact g0
 done:=by
  intro X hP hw hK hc i pins s σ H E I hf st hg
  subst hP hw hK
  obtain ⟨xs,hq,hx⟩:=hg
  obtain ⟨its,rv,p,hz⟩:=I.list hq
  obtain ⟨⟨old,he⟩,st2⟩:=st
  obtain ⟨g0,g1,g2,g3,g4,g5⟩:=hf it (by simp)
  have hl:=rv.length
  exact wpAny_pyNext_enum_end (I.ok.hd hc) he st2 p.isList (by simp; omega) fun h' eb=>⟨rfl,I.turned (t':=s.toks) (fun b o hb e=>eb b o hb e) g0 g1 g3 g4 g5⟩
 self:=fun _ _ _ _ _ st h=>by
  obtain ⟨⟨old,he⟩,_⟩:=st
  exact wpAny_pyIter_enum he h
def gJ:Nat→List Dv→List Dv
 | _,[]=>[]
 | k,d :: ds=>.tup [.int k,d] :: gJ (k + 1) ds
theorem eL:∀ (ds:List Dv) (k:Nat),(gJ k ds).length=ds.length
 | [],_=>rfl
 | d :: ds,k=>by show (gJ (k + 1) ds).length + 1=ds.length + 1; rw [eL]
theorem kH:∀ (ds:List Dv) (k i:Nat) (d:Dv),ds[i]?=a_ d→(gJ k ds)[i]?=a_ (.tup [.int ((k + i:Nat):Int),d])
 | [],_,_,_,h=>by simp at h
 | d :: ds,k,0,d',h=>by simp at h; subst h; rfl
 | d :: ds,k,i + 1,d',h=>by
  have q:=kH ds (k + 1) i d' (by simpa using h)
  show (Dv.tup [.int k,d] :: gJ (k + 1) ds)[i + 1]?=_
  rw [IL,q]
  have e:k + 1 + i=k + (i + 1):=by omega
  rw [e]
theorem vO {K:c_} {H:Hp} {a:i_} {xs:List V} {ds:List Dv} (h:H a=a_ (.lst xs)) (r:Reps K H ds xs):WkG K (Ite K a) (gJ 0 ds) H where
 go:=fun i H' e hi=>by
  rw [eL] at hi
  have hx:i < xs.length:=by rw [r.length]; exact hi
  exact ⟨xs,xs[i],SqL.of (e _ _ h),by simp [hx]⟩
 stop:=fun H' e=>⟨xs,SqL.of (e _ _ h),by rw [r.length,eL]; exact m_ _⟩
 yld:=fun i H' v H2 e hi y=>by
  obtain ⟨p,x,rfl,hp,rfl,y⟩:=y
  obtain ⟨d,h1,h2⟩:=Reps.get (Reps.mono e _ _ r) (y xs (SqL.of (e _ _ h)))
  have q:=kH ds 0 i d h1
  rw [Ik] at q
  exact ⟨aq hp _,_,q,⟨p,_,rfl,ao,⟨.int i,[x],rfl,rfl,x,[],rfl,Rep.mono (aq hp _) _ _ h2,rfl⟩⟩⟩
def sB:List Dv→Option (Rs (List Dv))
 | [.lst ds]=>a_ (.ok (gJ 0 ds))
 | _=>ck
theorem sC {X:Cx} {es:List C_} {k:Nat} {pt p pos:Pos} {l:C_} {ga:FnA} (hg:Gl X "enumerate") (hm:X.mg "enumerate"=ck) (ha:FA X [l] ga) (hs:h_ [l] X.env=[(f_,eval l X.env)]:=by kernel_rfl):FIG X (.Tuple es k pt) (.Call (.Name "enumerate" p) [l] [] pos) (fun ρ=>bnd (ga ρ) sB):=by
 constructor
 intro pins s σ H R I h
 obtain ⟨ρ,E,o⟩:=h
 have key:OutA X H (ga ρ) fun vs H'=>∃ ds,Reps X.K H' ds vs∧OutG X H' (sB ds) R:=by
  match hf:ga ρ,o with
  | some (.exc c),o=>exact o
  | some (.ok ds),o=>exact fun vs H' e rs=>⟨ds,rs,OutG.mono e o⟩
 refine Call_ (et I hg hm (show Go "enumerate"=a_ (.type "enumerate") by decide +kernel) (Gg (thn (ha.h pos pins s σ H _ I ⟨ρ,E,key⟩) fun us s1 ⟨vs,H1,I1,r1,ds,rs,q1⟩=>?_) hs rfl))
 unfold sB at q1
 split at q1
 · rename_i xs
   obtain ⟨v,rfl,rv⟩:=cV rs
   obtain ⟨a,ws,rfl,h1,h2⟩:=rv.lstE
   obtain ⟨u,rfl,ru⟩:=eC r1
   cases ru
   obtain ⟨its,rv',pl,hz⟩:=I1.list (SqL.of h1)
   refine call_enumerate_list pl.isList fun h' he hit hsz kk=>?_
   refine wpAny_pyIter_enum he ?_
   have I2:Inv X pins σ H1 { s1 with heap:=h' }:=I1.kept (t':=s1.toks) kk
   refine ⟨s1.heap.objs.size + 1,[s1.heap.objs.size + 1,s1.heap.objs.size],_,Ite X.K a,H1,rfl,I2,pQ a _ _ (Nat.succ_ne_self _),⟨⟨_,he⟩,hit⟩,fun b hb=>?_,q1 _ H1 (.refl H1) (vO h1 h2)⟩
   have hb':b=s1.heap.objs.size + 1∨b=s1.heap.objs.size:=by simpa using hb
   rcases hb' with rfl | rfl
   · exact I1.fpOk (Lp _) (I1.hok.fresh (Lp _))
   · exact I1.fpOk (m_ _) (I1.hok.fresh (m_ _))
 · exact q1.elim
section
variable {X:Cx} {pos p1:Pos}
end
theorem aA {a b:FnS} {ρ ρ':Ev} (h:a ρ=a_ (.nx ρ')):aD a b ρ=b ρ':=by
 unfold aD; rw [h]; rfl
theorem cG {c:FnB} {f:FnS} {ρ:Ev} (h:c ρ=a_ (.ok f_)):aX c f (fun ρ=>a_ (.nx ρ)) ρ=a_ (.nx ρ):=by
 unfold aX; rw [h]; rfl
theorem bB {i:Nat} {v:FnE} {ρ ρ':Ev} {d:Dv} (h:v ρ=a_ (.ok d)) (e:ρ.set i (a_ d)=ρ'):br i v ρ=a_ (.nx ρ'):=by
 unfold br; rw [h,← e]; rfl
theorem gp {v:FnE} {ρ:Ev} {d:Dv} (h:v ρ=a_ (.ok d)):bq v ρ=a_ (.nx ρ):=by
 unfold bq; rw [h]; rfl
theorem di {v:FnE} {ρ:Ev} {d:Dv} (h:v ρ=a_ (.ok d)):aC v ρ=a_ (.rt d):=by
 unfold aC; rw [h]; rfl
theorem vP {i:Nat} {js:List Nat} {src:FnA} {body:FnS} {ρ:Ev} {ds:List Dv} (h:src ρ=a_ (.ok ds)):sf i js src body ρ=jI i js body ds ρ:=by
 unfold sf; rw [h]; rfl
theorem jN {a:FnB} {ρ:Ev} {k:Bool} (h:a ρ=a_ (.ok k)):bL a ρ=a_ (.ok (!k)):=by unfold bL; rw [h]; rfl
theorem cW {f:FnE} {ρ:Ev} {k:Bool} (h:f ρ=a_ (.ok (.bl k))):fB f ρ=a_ (.ok k):=by unfold fB; rw [h]; rfl
theorem bf {g:Dv→Dv→Option (Rs Dv)} {f h:FnE} {ρ:Ev} {x y:Dv} (hf:f ρ=a_ (.ok x)) (hh:h ρ=a_ (.ok y)):f2 g f h ρ=g x y:=by unfold f2; rw [hf,hh]; rfl
theorem am {f:FnE} {g:FnA} {ρ:Ev} {x:Dv} {xs:List Dv} (h:f ρ=a_ (.ok x)) (t:g ρ=a_ (.ok xs)):aa f g ρ=a_ (.ok (x :: xs)):=by unfold aa; rw [h,t]; rfl
theorem aI {ρ:Ev}:ah ρ=a_ (.ok []):=rfl
theorem gq {F:List Dv→Option (Rs Dv)} {n:Nat} {g:FnA} {ρ:Ev} {ds:List Dv} {d:Dv} (h:g ρ=a_ (.ok ds)) (hl:ds.length=n) (hF:F ds=a_ (.ok d)):ag F n g ρ=a_ (.ok d):=by
 unfold ag; rw [h]
 show (if _ then _ else _)=_
 rw [if_pos hl,hF]
theorem og (F:List Dv→Option (Rs Dv)) {f:FnE} {ρ:Ev} {a d:Dv} (h:f ρ=a_ (.ok a)) (hF:F [a]=a_ (.ok d)):ag F 1 (aa f ah) ρ=a_ (.ok d):=gq (am h aI) rfl hF
theorem fN (F:List Dv→Option (Rs Dv)) {f g:FnE} {ρ:Ev} {a b d:Dv} (h:f ρ=a_ (.ok a)) (h':g ρ=a_ (.ok b)) (hF:F [a,b]=a_ (.ok d)):ag F 2 (aa f (aa g ah)) ρ=a_ (.ok d):=gq (am h (am h' aI)) rfl hF
theorem lR {g:FnA} {ρ:Ev} {ds:List Dv} (h:g ρ=a_ (.ok ds)) (hl:ds.length≤100000):ci g ρ=a_ (.ok (.tup ds)):=by
 unfold ci; rw [h]
 show (if _ then _ else _)=_
 rw [if_pos hl]
theorem uz {f g:FnE} {ρ:Ev} (h:f ρ=a_ (.ok (.bl e_))):dt f g ρ=g ρ:=by unfold dt; rw [h]; rfl
theorem fH {g:List Dv→Option (Rs Dv)} {a:FnA} {ρ:Ev} {ds:List Dv} (h:a ρ=a_ (.ok ds)):fB1 g a ρ=g ds:=by unfold fB1; rw [h]; rfl
theorem CF {g:Dv→Option (Rs Dv)} {f:FnE} {ρ:Ev} {x:Dv} (h:f ρ=a_ (.ok x)):f1 g f ρ=g x:=by unfold f1; rw [h]; rfl
theorem zi {c:FnB} {f g:FnE} {ρ:Ev} (h:c ρ=a_ (.ok e_)):fIf c f g ρ=f ρ:=by unfold fIf; rw [h]; rfl
theorem zj {c:FnB} {f g:FnE} {ρ:Ev} (h:c ρ=a_ (.ok f_)):fIf c f g ρ=g ρ:=by unfold fIf; rw [h]; rfl
theorem pR {g:FnA} {ρ:Ev} {ds:List Dv} (h:g ρ=a_ (.ok ds)) (hl:ds.length≤100000):bW g ρ=a_ (.ok (.lst ds)):=by
 unfold bW; rw [h]
 show (if _ then _ else _)=_
 rw [if_pos hl]
theorem ei {n:Nat} {B:FnS} {ds:List Dv} {d:Dv} (h:B (ds.map a_ ++ o_ (n - ds.length) ck)=a_ (.rt d)):aY n B ds=a_ (.ok d):=by
 unfold aY; rw [h]
section
variable {prog:n_} {w:y_} {A:w_} {E:d_→ge→Prop}
end
section
variable {X:Cx} {pos p1:Pos}
end
structure Aft (X:Cx) (e:i_) (Ts:List i_) (h h':FF):Prop where
 keep:∀ b o,h.get? b=a_ o→b≠e→b ∉ Ts→b ∉ frs X.stack→h'.get? b=a_ o
 slot:∀ b o,h.get? b=a_ o→b∈frs X.stack→∃ sl,h'.get? b=a_ { o with slots:=sl }
section
variable {X:Cx} {pins:List (i_×Obj)} {σ:L2.St} {H:Hp} {s:ge} {e:i_} {Ts:List i_} {h':FF}
theorem Aft.any {h:FF} (A:Aft X e Ts h h') {b:i_} {o:Obj} (q:h.get? b=a_ o) (n1:b≠e) (n2:b ∉ Ts):∃ sl,h'.get? b=a_ { o with slots:=sl }:=by
 by_cases hb:b∈frs X.stack
 · exact A.slot b o q hb
 · exact ⟨o.slots,A.keep b o q n1 n2 hb⟩
theorem Inv.aft (I:Inv X pins σ H s) (A:Aft X e Ts s.heap h') (hex:X.ex=[]) (hf:∀ b,b=e∨b∈Ts→H b=ck∧X.s₀.heap.get? b=ck∧(∀ p∈X.pn ++ pins,p.1≠b)∧∃ o vs,s.heap.get? b=a_ o∧o.data=.fields vs) :
 Inv X pins σ H { s with heap:=h' }:=by
 have nE:∀ b,H b≠ck→b≠e∧b ∉ Ts:=fun b hb=>⟨fun z=>hb (hf b (.inl z)).1,fun z=>hb (hf b (.inr z)).1⟩
 have n0:∀ b o,X.s₀.heap.get? b=a_ o→b≠e∧b ∉ Ts:=fun b o hb=>⟨fun z=>(by simp:(a_ o:Option Obj)≠ck) (hb.symm.trans (hf b (.inl z)).2.1),fun z=>(by simp:(a_ o:Option Obj)≠ck) (hb.symm.trans (hf b (.inr z)).2.1)⟩
 have nx:∀ b,b ∉ X.ex:=fun b=>by rw [hex]; simp
 have nD:∀ b o,s.heap.get? b=a_ o→(∀ vs,o.data≠.fields vs)→b≠e∧b ∉ Ts:=fun b o hb hd =>
  have go:(b=e∨b∈Ts)→False:=fun z=>by
   obtain ⟨o',vs,q,d⟩:=(hf b z).2.2.2
   rw [hb] at q
   cases q
   exact hd vs d
  ⟨fun z=>go (.inl z),fun z=>go (.inr z)⟩
 have nS:∀ b∈frs X.stack,H b=ck:=I.stkFree
 have cellK:∀ c v,s.heap.IsCell c v→h'.IsCell c v:=fun c v ⟨o,ho,hd⟩=>by
  obtain ⟨n1,n2⟩:=nD c o ho fun vs q=>by rw [hd] at q; cases q
  obtain ⟨sl,q⟩:=A.any ho n1 n2
  exact ⟨_,q,hd⟩
 refine ⟨I.ok,I.os,I.bare,⟨fun b o q n hb hx=>?_,fun b o q n hb hx=>?_,I.base.free,fun b o q hx=>?_,I.base.tups,I.base.frzs,I.base.tbls⟩,?_,fun x c q=>?_,I.free,I.freeC,fun p hp=>?_,fun a o q=>?_,I.len⟩
 · have h1:=I.base.keep b o q n hb hx
   obtain ⟨n1,n2⟩:=n0 b o q
   refine A.keep b o h1 n1 n2 fun z=>?_
   rcases FB.mp (I.stkSub b z) with z | z
   · exact absurd z (FM (D_ (v_ q) I.ok.above))
   · exact hb z
 · obtain ⟨sl,h1⟩:=I.base.slot b o q n hb hx
   obtain ⟨n1,n2⟩:=n0 b o q
   obtain ⟨sl',h2⟩:=A.any h1 n1 n2
   exact ⟨sl',h2⟩
 · obtain ⟨o',h1⟩:=I.base.there b o q hx
   obtain ⟨n1,n2⟩:=n0 b o q
   obtain ⟨sl,h2⟩:=A.any h1 n1 n2
   exact ⟨_,h2⟩
 · obtain ⟨m,⟨o,es,ep,ho,hd,r⟩,hl⟩:=I.loc
   obtain ⟨n1,n2⟩:=nD _ o ho fun vs q=>by rw [hd] at q; cases q
   obtain ⟨sl,q⟩:=A.any ho n1 n2
   refine ⟨m,⟨_,es,ep,q,hd,r⟩,fun i x v e1 e2 e3=>?_⟩
   obtain ⟨u,ru,l⟩:=hl i x v e1 e2 e3
   refine ⟨u,ru,?_⟩
   rcases l with l | ⟨k,c,ec,z⟩
   · exact .inl l
   · exact .inr ⟨k,c,ec,cellK c _ z⟩
 · obtain ⟨v,z⟩:=I.cell x c q
   exact ⟨v,cellK c v z⟩
 · obtain ⟨q,n,ne,nf,d⟩:=I.pin p hp
   have n1:p.1≠e:=(hf e (.inl rfl)).2.2.1 p hp
   have n2:p.1 ∉ Ts:=fun z=>(hf p.1 (.inr z)).2.2.1 p hp rfl
   refine ⟨A.keep p.1 p.2 q n1 n2 fun z=>?_,n,ne,nf,d⟩
   rcases FB.mp (I.stkSub _ z) with z | z
   · exact ne z
   · exact nf z
 · refine (I.hok a o q).stay (fun b u hb hu=>?_) (fun _ z=>z) fun _ _ z=>z
   have hn:H b≠ck:=by
    rcases hb with rfl | hb
    · rw [q]; simp
    · rw [hb]; simp
   exact A.keep b u hu (nE b hn).1 (nE b hn).2 fun z=>hn (nS b z)
abbrev hid (X:Cx) (e:i_) (Ts:List i_) (h:FF):FF:=MH h (e :: (Ts ++ frs X.stack))
theorem mV (I:Inv X pins σ H s) (k:(hid X e Ts s.heap).StaysIn h') (u:∀ b o,s.heap.get? b=a_ o→(∀ vs,o.data≠.fields vs)→∃ sl,h'.get? b=a_ { o with slots:=sl }):Aft X e Ts s.heap h' :=
 ⟨fun b o q n1 n2 n3=>k b o (Ju _ q (by simp only [FB,Ga]; rintro (z | z | z); exact n1 z; exact n2 z; exact n3 z)),fun b o q hb=>by
  obtain ⟨_,o',q',d⟩:=I.stack.mem hb
  rw [q] at q'
  cases q'
  exact u b o q d⟩
theorem jO (I:Inv X pins σ H s):s.heap.FunFrames (hid X e Ts s.heap) X.stack :=
 PySem.W.funFrames_hide I.stack fun env he a hfa=>on _ (s_ _ (JV.mpr ⟨env,he,hfa⟩))
end
section
variable {X:Cx} {pins:List (i_×Obj)} {σ:L2.St} {H:Hp} {s:ge} {e:i_} {cls:d_}
theorem Fly.imp {N N':i_→Prop} {h:FF} (F:Fly N H e cls h) (k:∀ a,N a→N' a):Fly N' H e cls h:=by
 obtain ⟨h1,h2,oe,vs,a0,q1,q2,q3,q4,q5⟩:=F
 refine ⟨h1,k _ h2,oe,vs,a0,q1,q2,q3,q4,?_⟩
 rcases q5 with q5 | ⟨T,oT,ts,r1,r2,r3,r4,r5⟩
 · exact .inl q5
 · exact .inr ⟨T,oT,ts,r1,r2,r3,k _ r4,r5⟩
theorem uA {h':FF} {Ts:List i_} (I:Inv X pins σ H s) (hex:X.ex=[]) (he:H e=ck∧X.s₀.heap.get? e=ck) (hT:∀ T∈Ts,H T=ck∧X.s₀.heap.get? T=ck) (ff:h'.FunFrames (hid X e Ts s.heap) X.stack)
 {T:i_} {oT:Obj} {ts:Array d_} (hn:(hid X e Ts s.heap).get? T=ck) (ne:T≠e) (hg:h'.get? T=a_ oT) (hd:oT.data=.fields ts):H T=ck∧X.s₀.heap.get? T=ck:=by
 have nf:T ∉ frs X.stack:=fun z=>by
  obtain ⟨_,o,q,d⟩:=ff.mem z
  rw [hg] at q
  cases q
  exact d ts hd
 have out:T∈Ts∨s.heap.get? T=ck:=by
  cases q:s.heap.get? T with
  | none=>exact .inr rfl
  | some o =>
   by_cases hm:T∈Ts
   · exact .inl hm
   · have:=Ju (e :: (Ts ++ frs X.stack)) q (by simp only [FB,Ga]; rintro (z | z | z); exact ne z; exact hm z; exact nf z)
     rw [hn] at this
     cases this
 rcases out with hm | hm
 · exact hT T hm
 · constructor
   · cases q:H T with
     | none=>rfl
     | some u =>
      have hk:=I.hok T u q
      exfalso
      have:∃ o,s.heap.get? T=a_ o:=by
       clear q
       induction u with
       | lst xs=>obtain ⟨_,_,_,_,z⟩:=hk; exact ⟨_,z⟩
       | tup xs=>obtain ⟨_,_,_,o,z,_⟩:=hk; exact ⟨_,z⟩
       | dK kvs=>obtain ⟨_,_,_,_,o,_,_,z,_⟩:=hk; exact ⟨_,z⟩
       | dT kvs=>obtain ⟨_,_,_,_,o,_,_,z,_⟩:=hk; exact ⟨_,z⟩
       | set S n=>obtain ⟨o,_,_,_,z,_⟩:=hk; exact ⟨_,z⟩
       | ins C dx fs=>obtain ⟨_,_,_,z,_⟩:=hk; exact ⟨_,z⟩
       | own y=>obtain ⟨_,z⟩:=hk; exact ⟨_,z⟩
       | xd fs=>obtain ⟨_,⟨_,_,_,z,_⟩,_⟩:=hk; exact ⟨_,z⟩
       | rng lo hi=>obtain ⟨_,_,_,z⟩:=hk; exact ⟨_,z⟩
       | frz ob u ih=>obtain ⟨z,_⟩:=hk; exact ⟨_,z⟩
       | tbl ps=>obtain ⟨_,z,_⟩:=hk; exact ⟨_,z⟩
       | met f y=>exact ⟨_,(show s.heap.get? T=a_ _ from hk)⟩
       | ext φ=>obtain ⟨_,⟨_,z⟩,_⟩:=hk; exact ⟨_,z⟩
      obtain ⟨o,z⟩:=this
      rw [hm] at z
      cases z
   · cases q:X.s₀.heap.get? T with
     | none=>rfl
     | some o =>
      obtain ⟨o',z⟩:=I.base.there T o q (by rw [hex]; simp)
      rw [hm] at z
      cases z
theorem pS (I:Inv X pins σ H s) (hex:X.ex=[]) (hst:X.stack=X.env :: X.outer) (hfm:X.env.frame=a_ X.env.locals) (F:Fly (fun a=>X.s₀.heap.get? a=ck) H e cls s.heap)
 {Q:Unit→ge→Prop} {E:d_→ge→Prop} (k:∀ h' Ts,Fly (fun a=>X.s₀.heap.get? a=ck) H e cls h'→Aft X e Ts s.heap h'→(∀ b,b=e∨b∈Ts→H b=ck∧X.s₀.heap.get? b=ck∧∃ o vs,s.heap.get? b=a_ o∧o.data=.fields vs)→Q () { s with heap:=h' }) :
 u_ (x_ X.prog X.w) X.A (leaving X.env (.ref e)) Q E s:=by
 obtain ⟨f1,f2,oe,vs,a0,q1,q2,q3,q4,q5⟩:=F
 have hfr:X.A.frames=a_ (X.env :: X.outer):=hst ▸ I.ok.frames
 subst q2
 rcases q5 with q5 | ⟨T,oT,ts,r1,r2,r3,r4,r5,r6,r7⟩
 · have b3:s.heap.FunFrames (hid X e [] s.heap) (X.env :: X.outer):=hst ▸ jO I
   refine wpAny_leaving_firstW (base:=hid X e [] s.heap) hfr b3 hfm q1 (fun b o z=>HM _ z) (GI _ (p_ ..)) q3 q5 q4 fun h' hL=>?_
   obtain ⟨k1,k2,⟨oe',vs',T,oT,ts,t1,⟨t2,t3⟩,t4,t5,t6,t7,t8,t9,t10⟩,k4⟩:=hL
   have k2':h'.FunFrames (hid X e [] s.heap) X.stack:=hst ▸ k2
   have nT:=uA I hex ⟨f1,f2⟩ (fun _ z=>absurd z (by simp)) k2' t6 t7 t8 t9
   refine k h' [] ⟨f1,f2,oe',vs',a0,t1,t2,t4,t3,.inr ⟨T,oT,ts,t5,t7,nT.1,nT.2,t8,t9,t10⟩⟩ (mV I k1 k4) fun b hb=>?_
   rcases hb with rfl | hb
   · exact ⟨f1,f2,oe,vs,q1,q3⟩
   · cases hb
 · have b3:s.heap.FunFrames (hid X e [T] s.heap) (X.env :: X.outer):=hst ▸ jO I
   have ht:s.heap.TracedW (hid X e [T] s.heap) e oe.cls a0:=⟨oe,vs,T,oT,ts,q1,⟨rfl,q4⟩,q3,r1,GI _ (by simp),r2,r5,r6,r7⟩
   refine wpAny_leaving_nextW (base:=hid X e [T] s.heap) hfr b3 hfm ht (fun b o z=>HM _ z) (GI _ (p_ ..)) fun h' hL=>?_
   obtain ⟨k1,k2,⟨oe',vs',T',oT',ts',t1,⟨t2,t3⟩,t4,t5,t6,t7,t8,t9,t10⟩,k4⟩:=hL
   have k2':h'.FunFrames (hid X e [T] s.heap) X.stack:=hst ▸ k2
   have nT:=uA I hex ⟨f1,f2⟩ (fun T0 z=>by simp at z; subst z; exact ⟨r3,r4⟩) k2' t6 t7 t8 t9
   refine k h' [T] ⟨f1,f2,oe',vs',a0,t1,t2,t4,t3,.inr ⟨T',oT',ts',t5,t7,nT.1,nT.2,t8,t9,t10⟩⟩ (mV I k1 k4) fun b hb=>?_
   rcases hb with rfl | hb
   · exact ⟨f1,f2,oe,vs,q1,q3⟩
   · simp at hb
     subst hb
     exact ⟨r3,r4,oT,ts,r5,r6⟩
end
def CXE (P:n_) (w:y_):CXT:=fun outer H s E ev s'=>∃ e cls H',ev=.ref e∧s'.os=s.os∧IU s'.gens∧Un (frs outer) [] H H' s.heap s'.heap∧HOk P w H' s'.heap∧Fly (fun a=>s.heap.get? a=ck) H' e cls s'.heap∧E cls ck H'
def spE (K:c_) (F:List Dv→Option (Rs Dv)) (n:Nat):Sp:=fun vs H Q E=>∃ ds,Reps K H ds vs∧ds.length=n∧match F ds with
 | some (.ok d)=>∀ v H',Same H H'→Rep K H' d v→Q v H'
 | some (.exc c)=>∀ C H',GY K rl (xnm c)=a_ (a_ (.ref C))→Same H H'→E (.ref C) ck H'
 | none=>False
def EX (X:Cx):XK:=fun cv _ H1=>∃ c C,cv=.ref C∧GY X.K rl (xnm c)=a_ (a_ (.ref C))∧XW X c H1
theorem vQ {X:Cx} (hex:X.ex=[]):jf (CXE X.prog X.w) X (EX X):=by
 intro pins σ H s ev s' I ⟨e,cls,H',he,os,bare,un,hok,F,c,C,hcv,hC,hx⟩
 have I':Inv X pins σ H' s':=I.call' (ch:=[]) os un hok bare fun b z=>absurd z (by simp)
 refine hx pins σ H' s' ev (fun _ _ z=>z) I' ⟨e,C,he,hC,hcv ▸ F.imp fun a ha=>⟨?_,fun p hp z=>?_⟩⟩
 · cases q:X.s₀.heap.get? a with
   | none=>rfl
   | some o =>
    obtain ⟨o',z⟩:=I.base.there a o q (by rw [hex]; simp)
    rw [ha] at z
    cases z
 · have:=(I.pin p (FH _ hp)).1
   rw [z,ha] at this
   cases this
def aB (F:List Dv→Option (Rs Dv)) (n:Nat) (g:FnA):FnE:=fun ρ=>bnd (g ρ) fun ds=>if ds.length=n then F ds else ck
def Bw (P:n_) (w:y_) (K:c_) (mg:Str→Option d_) (base:FF) (x:Str) (k:Nat) (ps:List Str) (F:List Dv→Option (Rs Dv)):Prop :=
 ∃ f fd,FnOk P w K mg base (CXE P w) k f fd ps (spE K F ps.length)∧mg x=a_ (.ref f)∧F4 K (.ref f)=e_∧Binds K fd ps []
section
variable {X:Cx} {k n:Nat} {ps:List Str} {x:Str} {p pos:Pos} {e:C_} {es:List C_} {F:List Dv→Option (Rs Dv)} {g:FnA}
theorem sD {k':Nat} (k:Nat) (ps:List Str) (F:List Dv→Option (Rs Dv)) (h:Bw X.prog X.w X.K X.mg X.base x k ps F) (hr:Room k' X.A) (hk:k≤k') (hex:X.ex=[]) (hg:Gl X x) (ha:FA X (e :: es) g) (hn:n=ps.length:=by kernel_rfl) (hdb:(x == ("__debug__":Str))=f_:=by kernel_rfl)
 (he:h_ (e :: es) X.env=(f_,eval e X.env) :: h_ es X.env:=by kernel_rfl) (hpl:(FP pos (h_ es X.env)).any (·.1)=f_:=by kernel_rfl) :
 FE X (.Call (.Name x p) (e :: es) [] pos) (aB F n g):=by
 subst hn
 obtain ⟨f,fd,G,hm,hkp,hb⟩:=h
 refine cA (jF (G.mono hk) hr hg hm hkp hb .nil (vQ hex) ha.h hdb he hpl) fun σ H Q ρ E o=>⟨ρ,E,OutA.bind o fun ds vs H' e rs o1=>?_⟩
 show spE X.K F ps.length (vs ++ []) H' Q (EX X)
 rw [GE]
 by_cases hl:ds.length=ps.length
 · rw [if_pos hl] at o1
   refine ⟨ds,rs,hl,?_⟩
   match hF:F ds with
   | none=>rw [hF] at o1; exact o1.elim
   | some (.ok d)=>rw [hF] at o1; exact o1
   | some (.exc c)=>rw [hF] at o1; exact fun C H1 hC e1=>⟨c,C,rfl,hC,XW.mono o1 e1⟩
 · rw [if_neg hl] at o1
   exact o1.elim
end
def gK (m:Nat) (fb:FnS):List Dv→Option (Rs Dv):=fun ds=>match fb (ds.map a_ ++ o_ (m - ds.length) ck) with
 | some (.nx _)=>a_ (.ok .non)
 | some (.rt d)=>a_ (.ok d)
 | some (.exc c)=>a_ (.exc c)
 | none=>ck
theorem zk {P:n_} {w:y_} {K:c_} {mg:Str→Option d_} {base:FF} {N:List Str} {qual:Str} {scope:GK} {f:i_} {cd:d_} {A:w_} {outer:List Env} {s:ge} {H:Hp} {E:XK} {c:Nat}
 (q:∀ C H',GY K rl (xnm c)=a_ (a_ (.ref C))→Same H H'→E (.ref C) ck H'):XW (iY (CXE P w) P w K mg base N qual scope f cd A outer s H E) c H:=by
 intro pins σ H' s1 ev e1 I ⟨e,C,he,hC,F⟩
 subst he
 have F':Fly (fun a=>s.heap.get? a=ck) H' e (.ref C) s1.heap:=F.imp fun a ha=>ha.1
 refine pS I rfl rfl rfl F' fun h' Ts F2 A2 hf=>?_
 have I2:=Inv.aft (pins:=[]) (I.pins_of (pins':=[]) fun p hp=>nomatch hp) A2 rfl fun b hb=>⟨(hf b hb).1,(hf b hb).2.1,fun p hp=>absurd (show p∈([]:List (i_×Obj)) from hp) (by simp),(hf b hb).2.2⟩
 exact ⟨e,.ref C,H',rfl,I.os,I.bare,I2.base,I2.hok,F2,q C H' hC e1⟩
theorem zl {k:Nat} {f:i_} {fd:F8} {x:Str} {P:n_} {w:y_} {K:c_} {mg:Str→Option d_} {base:FF} {qual:Str} {st:GT} {F:List Dv→Option (Rs Dv)} {n:Nat} (N ps:List Str) (fb:FnS) (hF:F=gK N.length fb) (hn:n=ps.length)
 (Fn:Fun K x qual st f fd) (S:cK N ps (al st))
 (hb:∀ (cdv:d_) (A:w_) (outer:List Env) (s:ge) (H:Hp) (E:XK),Room k (A.deeper (Hh qual (al st) s.heap.objs.size f cdv))→FSs (iY (CXE P w) P w K mg base N qual (al st) f cdv A outer s H E) (bA st) fb) :
 FnOk P w K mg base (CXE P w) (k + 1) f fd ps (spE K F n):=by
 subst hF hn
 obtain ⟨oc,od,kV,doc,pm,an,cdv,ct,osl,rfl,lk,hcd⟩:=Fn.ex
 refine rV lk hcd S (fun vs H Q E h=>?_) fun A outer s H vs Q E hr h=>?_
 · obtain ⟨ds,r,hl,_⟩:=h
   rw [r.length,hl]
 · obtain ⟨ds,r,hl,q⟩:=h
   refine ⟨_,(hb cdv A outer s H E hr).h,ds.map a_ ++ o_ (N.length - ds.length) ck,cT r,?_⟩
   unfold gK at q
   match hf:fb (ds.map a_ ++ o_ (N.length - ds.length) ck) with
   | none=>rw [hf] at q; exact q.elim
   | some (.exc c)=>rw [hf] at q; exact zk q
   | some (.rt d)=>rw [hf] at q; exact fun v H' e r'=>q v H' e r'
   | some (.nx ρ)=>rw [hf] at q; exact fun σ' H' e _=>q .non H' e rfl
theorem jP {P:n_} {w:y_} {H:Hp} {h:FF} (ok:HOk P w H h) {a:i_} {u:HO} (q:H a=a_ u):∃ o,h.get? a=a_ o:=by
 have hk:=ok a u q
 clear q
 induction u with
 | lst xs=>obtain ⟨_,_,_,_,z⟩:=hk; exact ⟨_,z⟩
 | tup xs=>obtain ⟨_,_,_,o,z,_⟩:=hk; exact ⟨_,z⟩
 | dK kvs=>obtain ⟨_,_,_,_,o,_,_,z,_⟩:=hk; exact ⟨_,z⟩
 | dT kvs=>obtain ⟨_,_,_,_,o,_,_,z,_⟩:=hk; exact ⟨_,z⟩
 | set S n=>obtain ⟨o,_,_,_,z,_⟩:=hk; exact ⟨_,z⟩
 | ins C dx fs=>obtain ⟨_,_,_,z,_⟩:=hk; exact ⟨_,z⟩
 | own y=>obtain ⟨_,z⟩:=hk; exact ⟨_,z⟩
 | xd fs=>obtain ⟨_,⟨_,_,_,z,_⟩,_⟩:=hk; exact ⟨_,z⟩
 | rng lo hi=>obtain ⟨_,_,_,z⟩:=hk; exact ⟨_,z⟩
 | frz ob u ih=>obtain ⟨z,_⟩:=hk; exact ⟨_,z⟩
 | tbl ps=>obtain ⟨_,z,_⟩:=hk; exact ⟨_,z⟩
 | met f y=>exact ⟨_,(show h.get? a=a_ _ from hk)⟩
 | ext φ=>obtain ⟨_,⟨_,z⟩,_⟩:=hk; exact ⟨_,z⟩
theorem pU {P:n_} {w:y_} {H:Hp} {h:FF} (ok:HOk P w H h) {a:i_} (n:h.get? a=ck):H a=ck:=by
 cases q:H a with
 | none=>rfl
 | some u =>
  obtain ⟨o,z⟩:=jP ok q
  rw [n] at z
  cases z
theorem pV {K:c_} {h:FF} {mg:Str→Option d_} {x:Str} {C:i_} {bmB:List d_} {newId:String} (X:K.In h) (hb:mg x=a_ (.ref C)) (q:LH K C bmB newId=e_):OwnCls x C bmB newId mg h:=by
 constructor
 · exact hb
 unfold LH at q
 split at q
 · rename_i dd cd sl look
   split at q
   · rename_i C2 rest s0 s1 s2 s3 nid s5 em es
     simp only [l_,beq_iff_eq,Ib] at q
     have e1:=q.1.1.1.1.1
     have e2:=q.1.1.1.1.2
     have e3:=q.1.1.1.2
     have e4:=q.1.1.2
     have e5:=q.1.2
     have e6:=q.2
     clear q
     subst e1 e2
     obtain ⟨f1,f2,f3,f4,f5,f6,f7,f8,f9,f10,f11⟩:=cd
     dsimp only at em e3 e5 e6
     subst em e3
     obtain ⟨l⟩:=sl
     have e7:l=[s0,s1,s2,s3,a_ (.builtin nid),s5]:=es
     subst e7
     refine ⟨rest,f4,f1,f5,f2,f6,f7,f8,f9,f10,dd,s0,s1,s2,s3,s5,_,X _ _ look,.of_isNs (PySem.W.isNs_of_in X e5),?_,PySem.W.tail_of_in X e4⟩
     exact PySem.W.nsMap_none_of_in X e5 e6
   · cases q
 · cases q
abbrev bmV:List d_:=[.type "ValueError",.type "Exception",.type "BaseException",.type "object"]
structure XC (K:c_) (c:Nat) (C:i_):Prop where
 nm:GY K rl (xnm c)=a_ (a_ (.ref C))
 ex:LH K C bmV "ValueError.__new__"=e_
def aS (c:Nat) (f:FnE):FnS:=fun ρ=>cg (f ρ) fun _=>a_ (.exc c)
section
variable {X:Cx} {a:C_} {fa:FnE} {np cpos pos:Pos} {x:Str} {C:i_}
theorem sE (c:Nat) (K:XC X.K c C) (hx:xnm c=x) (hm:X.mg x=a_ (.ref C)) (hex:X.ex=[]) (hc:X.calm=e_) (hg:Gl X x) (ha:FE X a fa)
 (he:h_ [a] X.env=(f_,eval a X.env) :: h_ [] X.env:=by kernel_rfl) (hdb:(x == ("__debug__":Str))=f_:=by kernel_rfl) :
 FS X (.Raise (a_ (.Call (.Name x np) [a] [] cpos)) ck pos) (aS c fa):=by
 subst hx
 constructor
 intro pins s σ H D I ⟨ρ,E,o⟩
 obtain ⟨tl,N,nm,q,bs,hdct,sn,sub,ab,col,dd,k0,k1,k2,k3,k5,mN,hC,hN,hni,T⟩:=(pV I.ok.mod.kin hm K.ex).obj
 refine wpAny_Raise_call_subT (C:=C) (nm:=nm) (q:=q) (N:=N) (bs:=bs) (bm:=tl) (hdct:=hdct) (sn:=sn) (sub:=sub) (ab:=ab) (col:=col) (dd:=dd) (k0:=k0) (k1:=k1) (k2:=k2) (k3:=k3) (k5:=k5) Ig (mN:=mN)
  (T.hasType Ig.hasBase) (I.ok.hd hc) (by rw [he]; rfl) hni (il I hg hm ⟨rfl,?_⟩ hdb)
 have hp:=(lN ha pE he).h cpos pins s σ H (fun vs H1=>vs.length=1∧XW X c H1) I ⟨ρ,E,?_⟩
 · rw [he] at hp ⊢
   refine Lm (thn hp fun us s2 ⟨vs,H1,I1,rv,hl,hw⟩=>⟨rfl,?_,I1.bk _ _ hC,hN.keeps I1.bk,T.keeps I1.bk,fun h' e me=>?_⟩)
   · rw [← rv.length,hl]; decide
   · have I2:Inv X pins σ H1 { s2 with heap:=h' }:=I1.kept (t':=s2.toks) me.keeps
     obtain ⟨t,t1,t2,t3⟩:=me.there
     refine hw pins σ H1 _ (.ref e) (fun _ _ z=>z) I2 ⟨e,C,rfl,K.nm,pU I1.hok me.new,⟨?_,fun p hp z=>?_⟩,_,_,.ref t,t1,rfl,rfl,rfl,.inl rfl⟩
     · cases z:X.s₀.heap.get? e with
       | none=>rfl
       | some o2 =>
        obtain ⟨o3,z3⟩:=I1.base.there e o2 z (by rw [hex]; simp)
        rw [me.new] at z3
        cases z3
     · have z2:=(I1.pin p (FH _ hp)).1
       rw [z,me.new] at z2
       cases z2
 · show OutA X H (aa fa ah ρ) _
   unfold aa
   unfold aS at o
   match hf:fa ρ with
   | none=>rw [hf] at o; exact o.elim
   | some (.exc c2)=>rw [hf] at o; exact o
   | some (.ok d)=>rw [hf] at o; exact fun vs H1 e1 r=>⟨r.length,XW.mono o e1⟩
end
end FD
namespace FD
open PySem PySem.Spec PyProof.Rows L2 PySem.W Builtin.Getset_descriptor
theorem pW:plainId "BaseException.__getattribute__"=e_:=by decide +kernel
theorem mW:builtinKind "BaseException.__getattribute__"=a_ .slot:=by decide +kernel
theorem pX:splitId "BaseException.__getattribute__"=a_ ("BaseException","__getattribute__"):=by decide +kernel
theorem sF (self:d_):bindSpecial (.builtin "BaseException.__getattribute__") self=pure (.builtin "BaseException.__getattribute__",[self]):=by
 have h1:withoutEnding? "BaseException.__getattribute__" "#opaque"=ck:=by decide +kernel
 have h2:withoutEnding? "BaseException.__getattribute__" "#data"=ck:=by decide +kernel
 simp only [bindSpecial,typeOf,builtinType,h1,h2,mW]; rfl
section
variable {prog:n_} {w:y_} {A:w_} {E:d_→ge→Prop} {s:ge} {K:c_} {x C:i_} {ox:Obj}
structure XI (K:c_) (C:i_):Prop where
 ga:findIn K (.ref C) "__getattribute__"=a_ (a_ (.builtin "BaseException.__getattribute__"))
 gt:findIn K (.ref C) "__getattr__"=a_ ck
 cl:findIn K (.ref C) "__class__"=a_ (a_ (.builtin "object.__class__"))
 sp:specialIn K (.builtin "object.__class__") "__get__"=a_ (a_ (.builtin "getset_descriptor.__get__"))
 tk:takesIn K (.builtin "object.__class__")=a_ e_
 ob:mroIn K C (.type "object")=a_ e_
 be:mroIn K C (.type "BaseException")=a_ e_
theorem zm (hx:s.heap.get? x=a_ ox) (hc:ox.cls=.ref C) {M:Kr}:Looks M s.heap (typeOf (.ref x)) (.ref C):=hc ▸ (Looks.ld hx).andThen .now
theorem sG (X:K.In s.heap) (k:XI K C) {M:Kr}:Looks M s.heap (Kv (.ref x) (.ref C) "__class__") (.bind (.builtin "getset_descriptor.__get__") (.builtin "object.__class__")):=by
 have L1:=L7 (M:=M) X k.cl
 have L2:=looks_specialIn (M:=M) X k.sp
 have L3:=looks_takesIn (M:=M) X k.tk
 intro A2 Q2 E2 s2 k2 q2
 unfold Kv
 refine g_ (L1 A2 _ E2 s2 k2 (g_ (L2 A2 _ E2 s2 k2 (g_ ?_))))
 unfold LV
 refine g_ (L3 A2 _ E2 s2 k2 ?_)
 rw [if_pos rfl]
 exact j_ (g_ (KH (j_ q2)))
theorem zn {R:LS→ge→Prop} {tp:d_} (X:K.In s.heap) (hx:s.heap.get? x=a_ ox) (hc:ox.cls=.ref C) (hm:mroIn K C (.type "object")=a_ e_)
 (h:R (.ok (.ret (.ref C))) s):H_ (x_ prog w) A (.call (.builtin "getset_descriptor.__get__") ⟨[.builtin "object.__class__",.ref x,tp],[]⟩) R s:=by
 have L0:=zm (M:=x_ prog w) hx hc
 have L1:=looks_mroIn (M:=x_ prog w) X hm
 obtain ⟨hh,g,dr,t,os⟩:=s
 refine Jm KF.slot_gs.plain KF.entry_gs (KF.slot_gs.check _ _ _ _ _ _ _ _ KF.type_class (KF.args_gs _ _ _) ?_)
 unfold IA.«getset_descriptor.__get__» descrGet
 rw [dga_obj]
 refine g_ (j_ ?_)
 unfold descrGetter descrCheckInstance descrNameAndClass isInstance
 simp only [KF.owner_class]
 repeat lk
 refine ⟨JN _ (by decide +kernel),Hj KF.entry_class ?_⟩
 unfold IA.«object.__class__» shownTypeOf
 repeat lk
 exact h
theorem pY {Q:Option d_→ge→Prop} (X:K.In s.heap) (hx:s.heap.get? x=a_ ox) (hc:ox.cls=.ref C) (k:XI K C)
 (h:Q (a_ (.ref C)) { s with toks:=s.toks + 1 }):u_ (x_ prog w) A (getAttr? (.ref x) "__class__") Q E s:=by
 have L0:=zm (M:=x_ prog w) hx hc
 have L2:=sG (M:=x_ prog w) (x:=x) X k
 obtain ⟨hh,g,d,t,os⟩:=s
 have L1:=L7 (M:=x_ prog w) X k.ga
 have L3:=L7 (M:=x_ prog w) X k.gt
 have LB:=looks_mroIn (M:=x_ prog w) X k.be
 unfold getAttr? getAttrBy? getAttrBy
 refine g_ (wpAny_mkText (g_ (Kj (GL (g_ (L0.at (g_ (L1.at ?_))))))))
 have hne:(GM "BaseException.__getattribute__" == GM "object.__getattribute__")=f_:=by decide +kernel
 dsimp only
 rw [hne,Lq,if_neg q_]
 unfold getAttrByItsOwn
 refine g_ ?_
 show u_ _ _ (typeLookup (.ref C) "__getattr__") _ _ _
 refine L3.at ?_
 refine g_ (Kj (GL ?_))
 unfold callGetattribute boundAndCalled
 rw [if_neg (by decide)]
 rw [sF]
 refine g_ (j_ ?_)
 refine JE (Jm pW F.entry_bexc_ga ?_)
 simp only [checkBuiltinCall,mW,pX]
 have ha:=F.args_bexc_ga (.ref x) (.str "__class__" t)
 have LI:Looks (x_ prog w) hh (isInstance (.ref x) (.type "BaseException")) e_:=L0.andThen LB
 show u_ _ _ (isInstance (.ref x) (.type "BaseException") >>= _) _ _ _
 refine g_ (LI.at ?_)
 simp only [Iw,B_,if_false]
 have hz:hh.get? x=a_ ox∧True:=⟨hx,trivial⟩
 clear hx
 repeat (any_goals (first | assumption | wp_step))
 have hx':=hz.1
 refine J0 hx' ?_
 refine j_ ?_
 rw [hc]
 refine g_ (L2.at ?_)
 dsimp only
 unfold MV
 dsimp only
 refine g_ (GL (JE (zn (s:=⟨hh,g,d,t + 1,os⟩) (ox:=ox) X hx' hc k.ob ?_)))
 refine j_ ?_
 show u_ _ _ (handedOut (.ref C)) _ _ _
 rw [handedOut_of rfl]
 exact j_ (j_ h)
theorem mX {K:c_} {C:i_} {b:d_} {r:Bool} (h:mroIn K C b=a_ r):∃ cd,clsIn K C=a_ cd:=by
 unfold mroIn at h
 cases q:clsIn K C with
 | none=>rw [q] at h; cases h
 | some cd=>exact ⟨cd,rfl⟩
theorem sH {K:c_} {x C:i_} {ox:Obj} (k:XI K C) (hc:ox.cls=.ref C):KitX K (.ref x) (.ref C) (fun h=>h.get? x=a_ ox) where
 ty:=fun M h _ q=>hc ▸ (Looks.ld q).andThen .now
 it:=fun _ _ X _=>by
  obtain ⟨cd,hc⟩:=mX k.ob
  unfold clsIn at hc
  split at hc
  · rename_i look
    intro A2 Q2 E2 s2 k2 q2
    unfold isType loadHead
    exact g_ (wpAny_loadPart (k2 _ _ (X _ _ look)) (j_ q2))
  · cases hc
 ne:=fun h tp dd its n sl X htp=>by
  obtain ⟨cd,hc⟩:=mX k.ob
  cases z:(A_ C == A_ tp) with
  | false=>rfl
  | true =>
   have e:=Value.ref.inj (beq_iff_eq.mp z)
   subst e
   unfold clsIn at hc
   split at hc
   · rename_i look
     cases (X _ _ look).symm.trans htp
   · cases hc
 ca:=fun X q z=>pY X q hc k z
end
def isX (tb:Nat→Option Bool):Dv→Option (Rs Dv)
 | .exn c=>match tb c with
  | some b=>a_ (.ok (.bl b))
  | none=>ck
 | _=>ck
def XT (K:c_) (tb:Nat→Option Bool) (T:d_):Prop:=∀ c b,tb c=a_ b→∀ C,nsIn K rl (xnm c)=a_ (a_ (.ref C))→XI K C∧kitOne K (.ref C) T=a_ b
section
variable {X:Cx} {p pos pT:Pos} {a:C_} {fa:FnE} {T:Str}
theorem mY {tv:V} {tval:d_} (rt:∀ u,RelV tv u→u=tval) {tb:Nat→Option Bool} (k:XT X.K tb tval):CallR X (.builtin "isinstance") (fun xs H Q=>∃ v c b,xs=[v,tv]∧Rep X.K H (.exn c) v∧tb c=a_ b∧Q (.bl b) H):=by
 intro pins s σ H xs us Q I r h
 obtain ⟨v,c,b,rfl,rv,hb,q⟩:=h
 obtain ⟨a,o,u,C,rfl,hH,hc,hn⟩:=rv.exnE
 obtain ⟨u1,u2,rfl,r1,r2⟩:=uZ r
 cases (show u1=A_ a from r1)
 cases (rt u2 r2)
 obtain ⟨xi,kk⟩:=k c b hb C hn
 have hg:s.heap.get? a=a_ o:=(I.hok a _ hH).1
 exact kia_one (sH xi hc) I.kIn hg kk (by intro z; cases z) fun tk=>⟨.bl b,H,I.tok tk,rfl,q⟩
theorem zo {tb:Nat→Option Bool} {CT:i_} (k:XT X.K tb (.ref CT)) (hT:X.mg T=a_ (.ref CT)) (hgT:Gl X T) (hdT:(T == ("__debug__":Str))=f_) (hg:Gl X "isinstance") (hm:X.mg "isinstance"=ck) (ha:FE X a fa)
 (hs1:h_ [a,.Name T pT] X.env=(f_,eval a X.env) :: h_ [.Name T pT] X.env:=by kernel_rfl) (hs2:h_ [.Name T pT] X.env=(f_,eval (.Name T pT) X.env) :: h_ [] X.env:=by kernel_rfl)
 (hpl:(FP pos (h_ [.Name T pT] X.env)).any (·.1)=f_:=by kernel_rfl) :
 FE X (.Call (.Name "isinstance" p) [a,.Name T pT] [] pos) (f1 (isX tb) fa) :=
 cA (fg (mY (tv:=.ref CT) (fun u z=>z) k) hg hm HS (df ha.h (df (gE (v:=.ref CT) hgT hT rfl hdT) kg hs2) hs1) (by decide) (by decide) hs1 hpl) fun σ H Q ρ E o=>⟨ρ,E,Out.bind o fun d v H1 e1 r o1=>by
  show ∃ v2 c b,[v,V.ref CT]=[v2,V.ref CT]∧_
  cases d with
  | exn c =>
   have o2:Out X H1 (match tb c with | some b=>a_ (.ok (.bl b)) | none=>ck) Q:=o1
   cases q:tb c with
   | none=>rw [q] at o2; exact o2.elim
   | some b=>rw [q] at o2; exact ⟨v,c,b,rfl,r,q,o2 _ H1 (.refl H1) rfl⟩
  | _=>exact o1.elim⟩
theorem zp {T:String} {tb:Nat→Option Bool} (k:XT X.K tb (.type T)) (hT:Go (b_ T)=a_ (.type T)) (hn:b_ T≠"__name__") (hdT:(b_ T == ("__debug__":Str))=f_)
 (hg:Gl X "isinstance") (hm:X.mg "isinstance"=ck) (hgT:Gl X (b_ T)) (hmT:X.mg (b_ T)=ck) (ha:FE X a fa)
 (hs1:h_ [a,.Name (b_ T) pT] X.env=(f_,eval a X.env) :: h_ [.Name (b_ T) pT] X.env:=by kernel_rfl) (hs2:h_ [.Name (b_ T) pT] X.env=(f_,eval (.Name (b_ T) pT) X.env) :: h_ [] X.env:=by kernel_rfl)
 (hpl:(FP pos (h_ [.Name (b_ T) pT] X.env)).any (·.1)=f_:=by kernel_rfl) :
 FE X (.Call (.Name "isinstance" p) [a,.Name (b_ T) pT] [] pos) (f1 (isX tb) fa) :=
 cA (fg (mY (tv:=.ty T) (fun u z=>z) k) hg hm HS (df ha.h (df (oW (v:=.ty T) hgT hmT hT rfl hn hdT) kg hs2) hs1) (by decide) (by decide) hs1 hpl) fun σ H Q ρ E o=>⟨ρ,E,Out.bind o fun d v H1 e1 r o1=>by
  show ∃ v2 c b,[v,V.ty T]=[v2,V.ty T]∧_
  cases d with
  | exn c =>
   have o2:Out X H1 (match tb c with | some b=>a_ (.ok (.bl b)) | none=>ck) Q:=o1
   cases q:tb c with
   | none=>rw [q] at o2; exact o2.elim
   | some b=>rw [q] at o2; exact ⟨v,c,b,rfl,r,q,o2 _ H1 (.refl H1) rfl⟩
  | _=>exact o1.elim⟩
end
end FD
namespace FD
open PySem PySem.Spec PyProof.Rows L2 PySem.W
section
variable {X:Cx} {pins:List (i_×Obj)} {σ:L2.St} {H:Hp} {s:ge}
theorem pZ {M:Kr} {A:w_} {E:d_→ge→Prop} {i:Nat} {x:Str} {v:V} {pos:Pos} {Q:Unit→ge→Prop} (I:Inv X pins σ H s) (hN:X.N.Nodup) (hi:X.N[i]?=a_ x) (hk:X.env.scope.names.lookup x=a_ .local) (hv:σ[i]?=a_ (a_ v))
 (h:∀ s',Inv X pins (σ.set i ck) H s'→Q () s'):u_ M A (unbindBehindTheSuite X.env x pos) Q E s:=by
 obtain ⟨m,hn,hl⟩:=id I.loc
 have hkd:X.env.kindOf x=a_ .local:=hk
 obtain ⟨u,ru,lk⟩:=hl i x v hi hv (.inl hk)
 have hm:m x=a_ u:=by
  rcases lk with ⟨_,z⟩ | ⟨z,_⟩
  · exact z
  · rw [hkd] at z
    rcases z with z | z <;> cases z
 have hcls:(X.env.scope.kind == .class || (X.env.scope.kind == .module && X.env.locals != X.env.globals))=f_:=by rw [I.ok.kind]; rfl
 have cne:=I.cne
 obtain ⟨oL,_,_,hoL,_⟩:=id hn
 refine wpAny_onRaise (wpAny_unbindName_local hkd hn hm hcls fun h' w hn' hs=>?_)
 refine h _ ⟨I.ok,I.os,I.bare,⟨fun b o e n hb hx=>?_,fun b o e n hb hx=>?_,I.base.free,fun b o e hx=>?_,I.base.tups,I.base.frzs,I.base.tbls⟩,⟨_,hn',fun j y v' e1 e2 e3=>?_⟩,fun y c e=>?_,I.free,I.freeC,fun p hp=>?_,fun b ob e=>?_,by simpa using I.len⟩
 · exact (hs.2 b (FM (D_ (v_ e) I.ok.above))).trans (I.base.keep b o e n hb hx)
 · obtain ⟨sl,e1⟩:=I.base.slot b o e n hb hx
   exact ⟨sl,(hs.2 b (FM (D_ (v_ e) I.ok.above))).trans e1⟩
 · obtain ⟨o',e1⟩:=I.base.there b o e hx
   exact ⟨o',(hs.2 b (FM (D_ (v_ e) I.ok.above))).trans e1⟩
 · by_cases hj:j=i
   · subst hj
     have hjl:j < σ.length:=by rw [I.len]; exact (E_.mp hi).1
     rw [F7 hjl] at e2
     cases e2
   · rw [Gf (IX hj)] at e2
     obtain ⟨u',r',q⟩:=hl j y v' e1 e2 e3
     refine ⟨u',r',?_⟩
     rcases q with ⟨k,e⟩ | ⟨k,c,e,z⟩
     · refine .inl ⟨k,?_⟩
       have:y≠x:=fun e=>hj (jD hN e1 (e ▸ hi))
       simp [this,e]
     · exact .inr ⟨k,c,e,z.sameBut hs (cne y c e)⟩
 · obtain ⟨w',z⟩:=I.cell y c e
   exact ⟨w',z.sameBut hs (cne y c e)⟩
 · obtain ⟨e,n,ne,nf,d⟩:=I.pin p hp
   exact ⟨(hs.2 p.1 ne).trans e,n,ne,nf,d⟩
 · refine (I.hok b ob e).stay (fun c w' hc q=>(hs.2 c ?_).trans q) (fun _ q=>q) fun _ _ q=>q
   rintro rfl
   rcases hc with hc | hc
   · rw [← hc,I.free] at e; cases e
   · rw [I.free] at hc; cases hc
theorem Inv.freeze {e:i_} {oe:Obj} {vs:Array d_} (I:Inv X pins σ H s) (he:H e=ck) (hg:s.heap.get? e=a_ oe) (hd:oe.data=.fields vs) (h0:X.s₀.heap.get? e=ck) (hp:∀ p∈X.pn ++ pins,p.1≠e) :
 Inv X pins σ (upd H e (.frz oe (.ext fun _=>True))) s:=by
 have ne:∀ b u,H b=a_ u→b≠e:=fun b u q=>av q he
 refine ⟨I.ok,I.os,I.bare,⟨I.base.keep,I.base.slot,fun b o q n hx=>?_,I.base.there,fun b xs q=>?_,fun b o u q=>?_,fun b ps q=>?_⟩,I.loc,I.cell,?_,fun x c q=>?_,fun p hp'=>?_,fun b u q=>?_,I.len⟩
 · have hb:b≠e:=fun z=>by rw [z,h0] at q; cases q
   rw [au hb]
   exact I.base.free b o q n hx
 · have q':=I.base.tups b xs q
   rw [au (ne b _ q')]
   exact q'
 · have q':=I.base.frzs b o u q
   rw [au (ne b _ q')]
   exact q'
 · obtain ⟨more,q'⟩:=I.base.tbls b ps q
   exact ⟨more,by rw [au (ne b _ q')]; exact q'⟩
 · obtain ⟨m,⟨o,es,ep,ho,hdd,_⟩,_⟩:=I.loc
   have hb:X.env.locals≠e:=fun z=>by rw [z,hg] at ho; cases ho; rw [hd] at hdd; cases hdd
   rw [au hb]
   exact I.free
 · obtain ⟨v,o,ho,hdd⟩:=I.cell x c q
   have hb:c≠e:=fun z=>by rw [z,hg] at ho; cases ho; rw [hd] at hdd; cases hdd
   rw [au hb]
   exact I.freeC x c q
 · obtain ⟨q1,q2,q3⟩:=I.pin p hp'
   exact ⟨q1,by rw [au (hp p hp')]; exact q2,q3⟩
 · by_cases hb:b=e
   · subst hb
     rw [ao] at q
     cases q
     exact ⟨hg,trivial,⟨oe,hg⟩,fun _ _ _ _=>trivial⟩
   · rw [au hb] at q
     exact (I.hok b u q).stay (fun _ _ _ z=>z) (fun c z=>by rw [au (ne c _ z)]; exact z) (fun c xs z=>by rw [au (ne c _ z)]; exact z) fun c _ _ z=>by rw [au (ne c _ z)]; exact z
end
structure RoomM (k:Nat) (A:w_):Prop where
 dp:A.depth + 3 * k + 5 < recursionLimit
 un:A.units + 16 * k + 200 < cLine
theorem RoomM.of {k:Nat} {A:w_} (r:Room k A):RoomM k A:=⟨r.dp,r.un⟩
theorem RoomM.mono {j k:Nat} {A:w_} (r:RoomM k A) (h:j≤k):RoomM j A:=⟨by have:=r.dp; omega,by have:=r.un; omega⟩
theorem RoomM.deeper {k:Nat} {A:w_} (r:RoomM (k + 1) A) (env:Env):RoomM k (A.deeper env) :=
 ⟨by have:=r.dp; show A.depth + 1 + 3 * k + 5 < _; omega,by have:=r.un; show A.units + 3 + 16 * k + 200 < _; omega⟩
theorem RoomM.units {k:Nat} {A:w_} (r:RoomM k A):A.units + 64 < cLine:=by have:=r.un; omega
structure FnM (P:n_) (w:y_) (K:c_) (mg:Str→Option d_) (base:FF) (k:Nat) (f:i_) (fd:F8) (ps:List Str) (F:List Dv→Option (Rs Dv)):Prop where
 run:∀ (A:w_) (outer:List Env) (s:ge) (H:Hp) (args:Args) (us:List d_) (vs:List V) (ds:List Dv) (d:Dv) (Q:VK),RoomM k A→Env0 P w K mg base A outer s H→Ji s fd args (ps.zip us)→Vals vs us →
  Reps K H ds vs→ds.length=ps.length→F ds=a_ (.ok d)→(∀ v H',Same H H'→Rep K H' d v→Q v H')→H_ (x_ P w) A (.call (.ref f) args) (CR CX0 outer P w H s Q E0) s
def Bx (P:n_) (w:y_) (K:c_) (mg:Str→Option d_) (base:FF) (x:Str) (k:Nat) (ps:List Str) (F:List Dv→Option (Rs Dv)):Prop :=
 ∃ f fd,FnM P w K mg base k f fd ps F∧mg x=a_ (.ref f)∧F4 K (.ref f)=e_∧Binds K fd ps []
section
variable {X:Cx} {x:Str} {p pos:Pos} {e:C_} {es:List C_} {g:FnA} {n:Nat}
theorem sI {k':Nat} (k:Nat) (ps:List Str) (F:List Dv→Option (Rs Dv)) (h:Bx X.prog X.w X.K X.mg X.base x k ps F) (hr:RoomM k' X.A) (hk:k≤k') (hg:Gl X x) (ha:FA X (e :: es) g) (hn:n=ps.length:=by kernel_rfl) (hdb:(x == ("__debug__":Str))=f_:=by kernel_rfl)
 (he:h_ (e :: es) X.env=(f_,eval e X.env) :: h_ es X.env:=by kernel_rfl) (hpl:(FP pos (h_ es X.env)).any (·.1)=f_:=by kernel_rfl) :
 FE X (.Call (.Name x p) (e :: es) [] pos) (ag F n g):=by
 subst hn
 obtain ⟨f,fd,G,hm,hkp,hb⟩:=h
 constructor
 intro pins s σ H Q I ⟨ρ,E,o⟩
 have hp:u_ (x_ X.prog X.w) X.A (MK (FP pos (h_ (e :: es) X.env))) (AP X pins σ fun vs H1=>∃ ds,Reps X.K H1 ds vs∧ds.length=ps.length∧∃ d,F ds=a_ (.ok d)∧∀ v H',Same H1 H'→Rep X.K H' d v→Q v H') X.xe s:=by
  refine ha.h pos pins s σ H _ I ⟨ρ,E,OutA.bind o fun ds vs H' e rs o1=>?_⟩
  by_cases hl:ds.length=ps.length
  · rw [if_pos hl] at o1
    refine ⟨ds,rs,hl,?_⟩
    match hF:F ds with
    | none=>rw [hF] at o1; exact o1.elim
    | some (.exc c)=>rw [hF] at o1; exact o1.elim
    | some (.ok d)=>rw [hF] at o1; exact ⟨d,rfl,o1⟩
  · rw [if_neg hl] at o1
    exact o1.elim
 refine Gq (il I hg hm ?_ hdb)
 refine JG (h₀:=X.base) I.ok.mod.kin hkp (thn hp fun us s1 ⟨vs,H1,I1,r,ds,rs,hl,d,hF,q⟩=>⟨I1.kIn,?_⟩) he hpl
 have hlen:us.length=ps.length:=by rw [← r.length,rs.length,hl]
 have hb':Ji s1 fd ⟨us,[]⟩ (ps.zip us):=by
  have z:=hb s1 us I1.kIn (by rw [GE]; exact hlen)
  rw [GE] at z
  exact z
 refine JE (HK (G.run X.A X.stack s1 H1 ⟨us,[]⟩ us vs ds d Q (hr.mono hk) I1.env0 hb' r rs hl hF q) fun r s' hq=>?_)
 cases r with
 | error e=>exact hq.elim
 | ok fl =>
  cases fl with
  | ret u=>exact I1.after hq
  | next=>exact FK hq
  | brk=>exact FK hq
  | cont=>exact FK hq
end
def cxM (P:n_) (w:y_) (K:c_) (mg:Str→Option d_) (base:FF) (N:List Str) (qual:Str) (scope:GK) (f:i_) (cd:d_) (A:w_) (outer:List Env) (s:ge) (H:Hp):Cx :=
 { iY CX0 P w K mg base N qual scope f cd A outer s H E0 with calm:=f_,xe:=fun _ _=>False }
theorem zq {k:Nat} {f:i_} {fd:F8} {x:Str} {P:n_} {w:y_} {K:c_} {mg:Str→Option d_} {base:FF} {qual:Str} {st:GT} {F:List Dv→Option (Rs Dv)} (N ps:List Str) (fb:FnS) (hF:F=aY N.length fb)
 (Fn:Fun K x qual st f fd) (S:cK N ps (al st))
 (hb:∀ (cdv:d_) (A:w_) (outer:List Env) (s:ge) (H:Hp),RoomM k (A.deeper (Hh qual (al st) s.heap.objs.size f cdv))→FSs (cxM P w K mg base N qual (al st) f cdv A outer s H) (bA st) fb) :
 FnM P w K mg base (k + 1) f fd ps F:=by
 subst hF
 obtain ⟨oc,od,kV,doc,pm,an,cdv,ct,osl,rfl,lk,hcd⟩:=Fn.ex
 refine ⟨fun A outer s H args us vs ds d Q hr e0 hbd r rs hl hF q=>?_⟩
 have hlv:vs.length=ps.length:=by rw [rs.length,hl]
 have KX:K.In s.heap:=e0.mod.kin.keeps fun b o e=>(e0.bs b o e).1
 have lim:s.heap.NoLimit:=e0.mod.nolimit.keeps fun b o e=>(e0.bs b o e).1
 have hkind:∀ y∈ps.zip us,(al st).names.lookup y.1=a_ .local∨((al st).names.lookup y.1=a_ .cell∧((F5 (s.heap.objs.size + 1) (al st).names []).lookup y.1).isSome=e_):=fun ⟨n,v⟩ hy=>by
  rcases S.par n (ID hy).1 with z | z
  · exact .inl z
  · exact .inr ⟨z,HP _ _ _ (.inl z)⟩
 have hdp:A.depth < recursionLimit:=by have:=hr.dp; omega
 refine K7 hdp (KX _ _ lk) rfl S.co S.gen rfl (LP KX hcd) (hbd _ _ _ _ ?_)
 refine Ie S.kind hkind fun env he s1 x=>?_
 subst he
 refine ⟨lim.keeps x.toInCall.keep,codeAny_func ?_⟩
 have e1:Env0 P w K mg base { A with handled:=ck } outer s H:=⟨e0.frames,e0.mod,e0.bs,e0.bsz,e0.funs,e0.frf,e0.hok,e0.bare⟩
 have I0:Inv (iY CX0 P w K mg base N qual (al st) f cdv { A with handled:=ck } outer s H E0) [] (start N vs) H s1:=ip S rfl e1 hlv r x
 have I:Inv (cxM P w K mg base N qual (al st) f cdv A outer s H) [] (start N vs) H s1 :=
  ⟨⟨I0.ok.mod,I0.ok.kind,I0.ok.glob,I0.ok.blt,I0.ok.above,I0.ok.inj,I0.ok.has,I0.ok.cab,(fun z=>absurd z q_),Ln e0.frames,I0.ok.stk,I0.ok.exf,I0.ok.bs,I0.ok.bsz,I0.ok.noex,I0.ok.exfs,I0.ok.funs,I0.ok.frf⟩,
   I0.os,I0.bare,I0.base,I0.loc,I0.cell,I0.free,I0.freeC,I0.pin,I0.hok,I0.len⟩
 have fin:∀ {s':ge} {σ':L2.St} {H':Hp} {v:V} {u:d_},Inv (cxM P w K mg base N qual (al st) f cdv A outer s H) [] σ' H' s'→RelV v u→Q v H'→CE outer P w H s Q u s':=fun {s' σ' H' v u} J rv q=>⟨v,H',J.os,J.bare,J.base,J.hok,rv,q⟩
 have hq:OutS (cxM P w K mg base N qual (al st) f cdv A outer s H) H (fb (ds.map a_ ++ o_ (N.length - ds.length) ck)) { nx:=fun _ H'=>Q .non H',rt:=Q }:=by
  unfold aY at hF
  match hf:fb (ds.map a_ ++ o_ (N.length - ds.length) ck) with
  | none=>rw [hf] at hF; cases hF
  | some (.exc c)=>rw [hf] at hF; cases hF
  | some (.rt d')=>rw [hf] at hF; cases hF; exact q
  | some (.nx ρ)=>rw [hf] at hF; cases hF; exact fun σ' H' e _=>q .non H' e rfl
 refine FU ((hb cdv A outer s H (hr.deeper _)).h [] s1 (start N vs) H _ I ⟨_,cT rs,hq⟩) (fun fl s' hs=>?_) fun e s' hs=>hs.elim
 cases fl with
 | ret u =>
  obtain ⟨v,σ',H',J,rv,z⟩:=hs
  exact fin J rv z
 | next =>
  obtain ⟨σ',H',J,z⟩:=hs
  exact fin (v:=V.non) (u:=FX) J rfl z
 | brk =>
  obtain ⟨_,_,_,z⟩:=hs
  exact FK z
 | cont =>
  obtain ⟨_,_,_,z⟩:=hs
  exact FK z
abbrev xD (X:Cx) (pl:List (i_×Obj)) (E:d_→ge→Prop):Cx:={ X with pn:=X.pn ++ pl,xe:=E }
abbrev kJ (X:Cx) (pl:List (i_×Obj)) (e:i_):Cx:={ X with A:=X.A.mark (a_ (.ref e)),calm:=f_,pn:=X.pn ++ pl,xe:=fun _ _=>False }
section
variable {X:Cx} {pl ps:List (i_×Obj)} {σ:L2.St} {H:Hp} {s:ge} {E:d_→ge→Prop} {e:i_}
theorem vR (I:Inv X pl σ H s):Inv (xD X pl E) [] σ H s :=
 ⟨⟨I.ok.mod,I.ok.kind,I.ok.glob,I.ok.blt,I.ok.above,I.ok.inj,I.ok.has,I.ok.cab,I.ok.hd,I.ok.frames,I.ok.stk,I.ok.exf,I.ok.bs,I.ok.bsz,I.ok.noex,I.ok.exfs,I.ok.funs,I.ok.frf⟩,
  I.os,I.bare,I.base,I.loc,I.cell,I.free,I.freeC,fun p hp=>I.pin p (by simpa using hp),I.hok,I.len⟩
theorem iC (I:Inv (xD X pl E) ps σ H s):Inv X pl σ H s :=
 ⟨⟨I.ok.mod,I.ok.kind,I.ok.glob,I.ok.blt,I.ok.above,I.ok.inj,I.ok.has,I.ok.cab,I.ok.hd,I.ok.frames,I.ok.stk,I.ok.exf,I.ok.bs,I.ok.bsz,I.ok.noex,I.ok.exfs,I.ok.funs,I.ok.frf⟩,
  I.os,I.bare,I.base,I.loc,I.cell,I.free,I.freeC,fun p hp=>I.pin p (FH _ hp),I.hok,I.len⟩
theorem mZ (I:Inv X pl σ H s):Inv (kJ X pl e) [] σ H s :=
 ⟨⟨I.ok.mod,I.ok.kind,I.ok.glob,I.ok.blt,I.ok.above,I.ok.inj,I.ok.has,I.ok.cab,fun z=>absurd z q_,I.ok.frames,I.ok.stk,I.ok.exf,I.ok.bs,I.ok.bsz,I.ok.noex,I.ok.exfs,I.ok.funs,I.ok.frf⟩,
  I.os,I.bare,I.base,I.loc,I.cell,I.free,I.freeC,fun p hp=>I.pin p (by simpa using hp),I.hok,I.len⟩
theorem oh (ok:X.Ok) (I:Inv (kJ X pl e) ps σ H s):Inv X pl σ H s :=
 ⟨ok,I.os,I.bare,I.base,I.loc,I.cell,I.free,I.freeC,fun p hp=>I.pin p (FH _ hp),I.hok,I.len⟩
theorem sJ {Y:Cx} (I:Inv Y ps σ H s) (hex:Y.ex=[]) (hst:Y.stack=Y.env :: Y.outer) (hfm:Y.env.frame=a_ Y.env.locals) {cls:d_} (F:Fly (B8 Y) H e cls s.heap)
 {Q:Unit→ge→Prop} {E1 E2:d_→ge→Prop} (k:∀ h' Ts a0,(hid Y e Ts s.heap).StaysIn h'→h'.FunFrames (hid Y e Ts s.heap) Y.stack→h'.TracedW (hid Y e Ts s.heap) e cls a0 →
  (∀ b o,s.heap.get? b=a_ o→(∀ vs,o.data≠.fields vs)→∃ sl,h'.get? b=a_ { o with slots:=sl }) →
  (∀ b,b=e∨b∈Ts→H b=ck∧B8 Y b∧∃ o vs,s.heap.get? b=a_ o∧o.data=.fields vs)→Q () { s with heap:=h' }) :
 u_ (x_ Y.prog Y.w) Y.A (Mm (.ref e) Y.env) (fun _ s2=>u_ (x_ Y.prog Y.w) Y.A (setFlight (.ref e) ck) Q E1 s2) E2 s:=by
 obtain ⟨f1,f2,oe,vs,a0,q1,q2,q3,q4,q5⟩:=F
 have hfr:Y.A.frames=a_ (Y.env :: Y.outer):=hst ▸ I.ok.frames
 subst q2
 rcases q5 with q5 | ⟨T,oT,ts,r1,r2,r3,r4,r5,r6,r7⟩
 · have b3:s.heap.FunFrames (hid Y e [] s.heap) (Y.env :: Y.outer):=hst ▸ jO I
   have go:∀ h',Heap.NotedW (hid Y e [] s.heap) (Y.env :: Y.outer) e oe.cls a0 (MM Y.env.locals) s.heap h'→u_ (x_ Y.prog Y.w) Y.A (setFlight (.ref e) ck) Q E1 { s with heap:=h' }:=fun h' ⟨k1,k2,k3,k4⟩ =>
    Jb (s:={ s with heap:=h' }) k1 k2 k3 fun h2 m1 m2 m3 m4=>k h2 [] a0 m1 (hst ▸ m2) m3 (fun b o q d=>by
     obtain ⟨sl,q'⟩:=k4 b o q d
     exact ⟨sl,m4 b _ q' d⟩) fun b hb=>by
      rcases hb with rfl | hb
      · exact ⟨f1,f2,oe,vs,q1,q3⟩
      · cases hb
   unfold Mm
   simp only [hfm]
   refine g_ (La q1 q3 q5 ?_)
   rw [if_neg (by decide)]
   exact wpAny_entryW hfr b3 hfm q1 (fun b o z=>HM _ z) (GI _ (p_ ..)) q3 (Gu.mp q5).1 q4 go
 · have b3:s.heap.FunFrames (hid Y e [T] s.heap) (Y.env :: Y.outer):=hst ▸ jO I
   have ht:s.heap.TracedW (hid Y e [T] s.heap) e oe.cls a0:=⟨oe,vs,T,oT,ts,q1,⟨rfl,q4⟩,q3,r1,GI _ (by simp),r2,r5,r6,r7⟩
   refine wpAny_noteFrame_onW hfr b3 hfm ht (fun b o z=>HM _ z) (GI _ (p_ ..)) fun h' ⟨k1,k2,k3,k4⟩=>?_
   refine Jb (s:={ s with heap:=h' }) k1 k2 k3 fun h2 m1 m2 m3 m4=>k h2 [T] a0 m1 (hst ▸ m2) m3 (fun b o q d=>by
    obtain ⟨sl,q'⟩:=k4 b o q d
    exact ⟨sl,m4 b _ q' d⟩) fun b hb=>by
     rcases hb with rfl | hb
     · exact ⟨f1,f2,oe,vs,q1,q3⟩
     · simp at hb
       subst hb
       exact ⟨r3,r4,oT,ts,r5,r6⟩
theorem p4 {prog:n_} {w:y_} {A:w_} {E1:d_→ge→Prop} {K:c_} {mg mg2:Str→Option d_} {C J:i_} {oe:Obj} {y z:Str} {Q:Bool→ge→Prop} (X:K.In s.heap) (hC:OwnCls y C bmV "ValueError.__new__" mg s.heap) (hJ:OwnCls z J bmV "ValueError.__new__" mg2 s.heap)
 (he:s.heap.get? e=a_ oe) (hc:oe.cls=.ref C) (hm:mroIn K C (.ref J)=a_ e_) (h:Q e_ s):u_ (x_ prog w) A (excMatches (.ref e) (.ref J)) Q E1 s:=by
 obtain ⟨tl,N,nm,q,bs,hdct,sn,sub,ab,col,dd,k0,k1,k2,k3,k5,mN,hC,hN,hni,T⟩:=hC.obj
 obtain ⟨tl',N',nm',q',bs',hdct',sn',sub',ab',col',dd',l0,l1,l2,l3,l5,mN',hJ,hN',hni',T'⟩:=hJ.obj
 obtain ⟨hh,g,d,t,os⟩:=s
 have hcB:(A_ J :: tl').contains (.type "BaseException")=e_:=by rw [List.contains_cons,T'.hasType Ig.hasBase,Bool.or_true]
 have hcC:(A_ C :: tl).contains (.ref J)=e_:=by
  unfold mroIn at hm
  obtain ⟨cd,a,b⟩:=HG.mp hm
  split at b
  · cases b
  · have b':=F0 b
    unfold clsIn at a
    split at a
    · rename_i look
      cases a
      have z:=(X _ _ look).symm.trans hC
      cases z
      exact b'
    · cases a
 have f:=tc_notTuple
 unfold excMatches
 repeat (first | (with_reducible refine J0 he ?_; rw [hc]) | with_reducible refine J0 hJ ?_ | (with_reducible refine wpAny_isSubtype_exc hJ ?_; rw [hcB]) | (with_reducible refine wpAny_isSubtype_exc hC ?_; rw [hcC]) | wp_step)
 exact h
end
def uB (m i N:Nat) (f g:FnE):FnS:=fun ρ=>match f ρ with
 | none=>ck
 | some (.ok d)=>a_ (.rt d)
 | some (.exc c)=>if c < m then (match g ((o_ N ck).set i (a_ (.exn c))) with
  | some (.ok d)=>a_ (.rt d)
  | _=>ck) else ck
section
variable {X:Cx} {ex hx:C_} {f g:FnE} {J n:Str} {CJ:i_} {np rp rp2 hpos pos:Pos}
theorem zr (m i N:Nat) (hex:X.ex=[]) (hst:X.stack=X.env :: X.outer) (hfm:X.env.frame=a_ X.env.locals) (hgJ:Gl X J) (hmJ:X.mg J=a_ (.ref CJ)) (KJ:excIn X.K CJ bmV "ValueError.__new__"=e_)
 (xk:∀ c C,c < m→nsIn X.K rl (xnm c)=a_ (a_ (.ref C))→excIn X.K C bmV "ValueError.__new__"=e_∧mroIn X.K C (.ref CJ)=a_ e_)
 (hN:X.N.Nodup) (hi:X.N[i]?=a_ n) (hl:X.env.scope.names.lookup n=a_ .local) (hNl:X.N.length=N)
 (hb:∀ pl E',FE (xD X pl E') ex f) (hh:∀ pl e,FE (kJ X pl e) hx g) (hdb:(J == ("__debug__":Str))=f_:=by kernel_rfl) :
 FS X (.Try [.Return (a_ ex) rp] [.ExceptHandler (a_ (.Name J np)) (a_ n) [.Return (a_ hx) rp2] hpos] [] [] pos) (uB m i N f g):=by
 constructor
 intro pins s σ H D I ⟨ρ,E,o⟩
 refine wpAny_Try_except ?_
 have hbody:=fun E' (h:OutS (xD X pins E') H (aC f ρ) { nx:=fun _ _=>False,rt:=D.rt })=>(lO (pF (pos:=rp) (hb pins E'))).h [] s σ H { nx:=fun _ _=>False,rt:=D.rt } (vR I) ⟨ρ,E,h⟩
 refine FU (hbody (fun e s₁=>u_ (x_ X.prog X.w) X.A (Mm e X.env) (fun _ s₂=>u_ (x_ X.prog X.w) X.A (setFlight e ck) (fun _ s₃=>u_ (x_ X.prog X.w) X.A (handleBy e X.env [.ExceptHandler (a_ (.Name J np)) (a_ n) [.Return (a_ hx) rp2] hpos]) (SP X pins D) X.xe s₃) X.xe s₂) X.xe s₁) ?_) (fun fl s1 hs=>?_) fun e s1 hs=>hs
 · unfold uB at o
   unfold aC
   match hf:f ρ with
   | none=>rw [hf] at o; exact o.elim
   | some (.ok d)=>rw [hf] at o; exact o
   | some (.exc c) =>
    rw [hf] at o
    dsimp only at o
    by_cases hcm:c < m
    · rw [if_pos hcm] at o
      intro ps σ1 H1 s1 ev same I1 ⟨e,C,he,hC,F⟩
      subst he
      have fe:H1 e=ck:=F.1
      have fn:=F.2.1
      refine sJ (Y:=xD X pins _) I1 hex hst hfm F (E1:=X.xe) (E2:=X.xe) fun h2 Ts a0 k1 k2 k3 k4 k5=>?_
      have I1':=I1.pins_of (pins':=[]) fun p hp=>absurd hp (by simp)
      have hf5:∀ b,b=e∨b∈Ts→H1 b=ck∧X.s₀.heap.get? b=ck∧(∀ p∈(X.pn ++ pins) ++ [],p.1≠b)∧∃ o vs,s1.heap.get? b=a_ o∧o.data=.fields vs:=fun b hb=>⟨(k5 b hb).1,(k5 b hb).2.1.1,fun p hp=>(k5 b hb).2.1.2 p (by simpa using hp),(k5 b hb).2.2⟩
      have I2:=Inv.aft I1' (mV I1 k1 k4) hex hf5
      have J2:Inv (kJ X pins e) [] σ1 H1 { s1 with heap:=h2 }:=mZ (iC I2)
      have k3':=k3
      obtain ⟨oe,vs,T,oT,ts,t1,⟨t2,t3⟩,t4,_⟩:=k3'
      obtain ⟨xC,xm⟩:=xk c C hcm hC
      refine wpAny_handleBy_cons (codeAny_handlers_test (il (X:=kJ X pins e) J2 hgJ hmJ ?_ hdb)) (by intro z; cases z)
      refine p4 (mg:=fun _=>a_ (.ref C)) (y:=n) J2.kIn (pV J2.kIn rfl xC) (pV J2.kIn hmJ KJ) t1 t2 xm ?_
      show H_ _ _ (.handlers (.ref e) [.ExceptHandler ck (a_ n) [.Return (a_ hx) rp2] hpos] X.env) _ _
      refine codeAny_handlers_suite_as ?_
      refine Jb (s:={ s1 with heap:=h2 }) k1 k2 k3.at fun h3 m1 m2 m3 m4=>?_
      have A3:Aft (xD X pins _) e Ts s1.heap h3:=mV I1 m1 fun b o q d=>by
       obtain ⟨sl,q'⟩:=k4 b o q d
       exact ⟨sl,m4 b _ q' d⟩
      have I3:=Inv.aft I1' A3 hex hf5
      obtain ⟨oe3,vs3,T3,oT3,ts3,u1,⟨u2,u3⟩,u4,_⟩:=m3
      have I4:=Inv.freeze I3 fe u1 u4 fn.1 fun p hp=>fn.2 p (by simpa using hp)
      have J4:Inv (kJ X pins e) [] σ1 (upd H1 e (.frz oe3 (.ext fun _=>True))) { s1 with heap:=h3 }:=mZ (iC I4)
      refine ic (X:=kJ X pins e) J4 hN hi (.inl hl) (v:=.ref e) rfl (fun s5 J5=>?_) (.inr hl)
      have rep:Rep X.K (upd H1 e (.frz oe3 (.ext fun _=>True))) (.exn c) (.ref e):=⟨e,oe3,_,C,rfl,ao,u2,hC⟩
      have E5:Envs X.K (upd H1 e (.frz oe3 (.ext fun _=>True))) (σ1.set i (a_ (.ref e))) ((o_ N ck).set i (a_ (.exn c))):=by
       refine Envs.set (ρ:=o_ N ck) ⟨?_,fun j d hj=>?_⟩ rep
       · rw [I1.len,He]; exact hNl
       · rw [HI] at hj
         split at hj <;> cases hj
      match hg:g ((o_ N ck).set i (a_ (.exn c))) with
      | none=>rw [hg] at o; exact o.elim
      | some (.exc c2)=>rw [hg] at o; exact o.elim
      | some (.ok d) =>
       rw [hg] at o
       have hrun:=(lO (pF (pos:=rp2) (hh pins e))).h [] s5 _ _ { nx:=fun _ _=>False,rt:=D.rt } J5 ⟨_,E5,(by
        unfold aC
        rw [hg]
        exact fun v H' e1 r=>o v H' ((same.trans (aq fe _)).trans e1) r)⟩
       refine FU hrun (fun fl s6 hs=>?_) fun _ _ z=>z.elim
       cases fl with
       | ret u =>
        obtain ⟨v,σ6,H6,J6,rv,q6⟩:=hs
        have J7:Inv X pins σ6 H6 s6:=oh I.ok J6
        have hil:i < σ6.length:=by rw [J7.len]; exact (E_.mp hi).1
        refine g_ (wpAny_bindName (ic J7 hN hi (.inl hl) (v:=.non) rfl (fun s7 J8=>?_) (.inr hl)))
        exact pZ J8 hN hi hl (v:=.non) (F7 hil) fun s8 J9=>⟨v,_,H6,J9,rv,q6⟩
       | next=>obtain ⟨_,_,_,z⟩:=hs; exact FK z
       | brk=>obtain ⟨_,_,_,z⟩:=hs; exact FK z
       | cont=>obtain ⟨_,_,_,z⟩:=hs; exact FK z
    · rw [if_neg hcm] at o
      exact o.elim
 · cases fl with
   | ret u =>
    obtain ⟨v,σ',H',I',rv,q⟩:=hs
    exact ⟨v,σ',H',iC I',rv,q⟩
   | next=>obtain ⟨_,_,_,z⟩:=hs; exact FK z
   | brk=>obtain ⟨_,_,_,z⟩:=hs; exact FK z
   | cont=>obtain ⟨_,_,_,z⟩:=hs; exact FK z
end
end FD
namespace FD
open PySem PySem.Spec PyProof.Rows L2
def CG:List Dv→List Dv→Option (Rs Dv)
 | xs,[x]=>if eE x && xs.all eE && t_ (xs.length≤100000) then a_ (.ok (.int (xs.countP (fun y=>eqF y x):Nat))) else ck
 | _,_=>ck
def zt:V→List V→Hp→VK→Prop:=fun x xs H Q=>∃ a vs y,x=.ref a∧xs=[y]∧H a=a_ (.lst vs)∧el y=e_∧vs.all el=e_∧vs.length≤100000∧Q (.int (vs.countP (fun v=>eqV v y):Nat)) H
section
variable {X:Cx} {apos cpos:Pos} {e o:C_} {es:List C_} {ga:FnA} {fo:FnE}
theorem jo {y:V}:∀ {vs:List V} {its:List d_},Vals vs its→vs.all el=e_→its.countP (eqU y)=vs.countP fun v=>eqV v y
 | _,_,.nil,_=>rfl
 | _,_,.cons (a:=v) (b:=u) r t,f=>by
  rw [G4,l_] at f
  rw [Jg,Jg,jo t f.2,mO r f.1]
theorem p6:MtR X "list.count" zt:=by
 intro pins s σ H x xs v us Q I rx rs h
 obtain ⟨a,vs,y,rfl,rfl,h1,fy,fv,hz,q⟩:=h
 cases rx
 obtain ⟨u,rfl,ru⟩:=eC rs
 obtain ⟨z,its,n,rv,hl,e⟩:=I.lstM h1
 refine HL Ku ⟨_,e,rfl⟩ PySem.F.entry_list_count (PySem.F.args_list_count_2 _ _) (SeqAt.list_countAt a its.toArray n ck #[] u (eqU y)) ⟨e,fun t ht=>dH ru fy rv fv t (by simpa using ht),⟨.int (vs.countP (fun v=>eqV v y):Nat),H,I.tok _,⟨s.toks,?_⟩,q⟩⟩
 have:=jo (y:=y) rv fv
 rw [Jw,this]
theorem uC {K:c_} {H:Hp} {x:Dv} {u:V} (q:Rep K H x u) (hx:eE x=e_):∀ {xs:List Dv} {vs:List V},Reps K H xs vs→xs.all eE=e_→vs.countP (fun v=>eqV v u)=xs.countP fun y=>eqF y x
 | [],vs,r,_=>by cases (show vs=[] from r); rfl
 | y :: ys,vs,r,f=>by
  obtain ⟨v,ws,rfl,r1,r2⟩:∃ v us,vs=v :: us∧Rep K H y v∧Reps K H ys us:=r
  rw [G4,l_] at f
  rw [Jg,Jg,uC q hx r2 f.2,pM r1 q f.1 hx]
theorem sK (ho:FE X o fo) (ha:FA X (e :: es) ga)
 (hbase:HY o "count" X.env (eval o X.env)=eval o X.env:=by kernel_rfl)
 (hfew:((FP cpos (h_ (e :: es) X.env)).all (fun x=>!x.1) && (Ho cpos (GB [] X.env)).all (fun x=>x.1.isSome)
   && t_ ((e :: es).length + ([]:List Hy).length + (if ([]:List Hy).isEmpty then 0 else 1) < 30))=e_:=by kernel_rfl)
 (hline:(apos.endLine == cpos.line)=e_:=by kernel_rfl) (hs:h_ (e :: es) X.env=(f_,eval e X.env) :: h_ es X.env:=by kernel_rfl) (hplain:(FP cpos (h_ es X.env)).any (·.1)=f_:=by kernel_rfl) :
 FE X (.Call (.Attribute o "count" apos) (e :: es) [] cpos) (fML CG fo ga) :=
 cA (rY II Ku PySem.F.type_list_count p6 ho.h ha.h hbase hfew hline hs hplain) fun σ H Q ρ E o=>⟨ρ,E,Out.bind o fun d v H1 e1 rd o1=>by
  cases d <;> try exact (show False from o1).elim
  rename_i ds
  obtain ⟨a,vs,rfl,h1,h2⟩:=rd.lstE
  refine ⟨.inl ⟨rfl,vs,SqL.of h1⟩,ρ,E.mono e1,OutA.bind o1 fun es ws H2 e2 rs o2=>?_⟩
  unfold CG at o2
  split at o2
  · rename_i x
    split at o2
    · rename_i hc
      rw [l_,l_] at hc
      obtain ⟨w,rfl,rw'⟩:=cV rs
      have h2':=Reps.mono e2 _ _ h2
      refine ⟨a,vs,w,rfl,rfl,e2 _ _ h1,jK rw' hc.1.1,ie h2' hc.1.2,by rw [h2.length]; exact of_decide_eq_true hc.2,?_⟩
      rw [uC rw' hc.1.1 h2' hc.1.2]
      exact o2 _ H2 (.refl H2) rfl
    · exact o2.elim
  · exact o2.elim⟩
end
section
variable {X:Cx} {a b c:C_} {fa fb fc:FnE} {pos:Pos}
end
def m5 (x:Str) (n:Int):Str:=if n < 1 then M0 else if (n == 1 || x.length == 0)=e_ then x else ⟨(o_ n.toNat x.cps).foldl (· ++ ·) #[]⟩
def Eg:Dv→Dv→Option (Rs Dv)
 | .str x,.int n=>if x.length≤1000∧-1000≤n∧n≤1000 then a_ (.ok (.str (m5 x n))) else ck
 | x,y=>hW x y
section
variable {X:Cx}
def sL:R2:=fun x y H Q=>∃ i n,x=.str i∧y=.int n∧(i.length≤1000∧-1000≤n∧n≤1000)∧Q (.str (m5 i n)) H
theorem m7 (a:Array Nat):∀ (k:Nat) (acc:Array Nat),((o_ k a).foldl (· ++ ·) acc).size=acc.size + k * a.size
 | 0,acc=>by simp
 | k + 1,acc=>by
  rw [GA,K3,m7 a k (acc ++ a),Ja,Me]
  omega
theorem p7 {a n:Nat} (h1:a≤1000) (h2:n≤1000):n * a≤sizeLine:=by
 have h3:n * a≤1000 * 1000:=Nat.mul_le_mul h2 h1
 rw [Jl]
 exact F6 h3 (by decide)
theorem op_mulS:OpR X (GV .Mult) sL:=by
 intro pins s σ H x y v u Q I rx ry ⟨i,n,hx,hy,hc,q⟩
 subst hx hy
 obtain ⟨t,rfl⟩:=rx
 obtain ⟨t2,rfl⟩:=ry
 have h0:(t_ (n < -(2 ^ 63:Int)) || t_ (n ≥ 2 ^ 63))=f_:=by
  have h1:¬ n < -(2 ^ 63:Int):=by omega
  have h2:¬ n ≥ 2 ^ 63:=by omega
  rw [decide_eq_false h1,decide_eq_false h2]; rfl
 refine P.mul_str h0 (fun h1 h2 h3=>?_) (fun h1 h2=>?_) ?_
 · have hn:0 < n:=by omega
   have e1:=Int.mul_ediv_add_emod (2 ^ 63 - 1) n
   have e2:=GH (2 ^ 63 - 1) hn
   have hq:(2 ^ 63 - 1:Int) / n < 1000:=by omega
   have hq0:0≤(2 ^ 63 - 1:Int) / n:=Int.ediv_nonneg (by decide) (by omega)
   have h4:n * ((2 ^ 63 - 1:Int) / n)≤1000 * ((2 ^ 63 - 1:Int) / n):=Int.mul_le_mul_of_nonneg_right hc.2.2 hq0
   omega
 · show t_ (i.length * n.toNat > sizeLine)=f_
   have:=p7 (a:=i.length) (n:=n.toNat) hc.1 (by omega)
   rw [Mf]
   exact decide_eq_false (by omega)
 · unfold m5 at q
   split
   · rename_i h1
     rw [if_pos h1] at q
     exact ⟨by decide,⟨.str M0,H,I.tok _,⟨_,rfl⟩,q⟩⟩
   · rename_i h1
     rw [if_neg h1] at q
     split
     · rename_i h2
       rw [if_pos h2] at q
       exact ⟨.str i,H,I,⟨_,rfl⟩,q⟩
     · rename_i h2
       rw [if_neg h2] at q
       refine ⟨?_,⟨.str _,H,I.tok _,⟨_,rfl⟩,q⟩⟩
       show ((o_ n.toNat i.cps).foldl (· ++ ·) #[]).size≤sizeLine
       rw [m7]
       have:=p7 (a:=i.length) (n:=n.toNat) hc.1 (by omega)
       have e:i.cps.size=i.length:=rfl
       rw [e]
       simpa using this
theorem zu:OpR X (GV .Mult) (fun x y H Q=>sL x y H Q∨rI CMul (fun i j=>.int (i * j)) x y H Q):=op_mulS.or ug
theorem uD:GOp X (fun x y H Q=>sL x y H Q∨rI CMul (fun i j=>.int (i * j)) x y H Q) Eg:=by
 intro dx dy x y H Q rx ry o
 cases dx with
 | str i =>
  cases dy with
  | int n =>
   have o2:Out X H (if i.length≤1000∧-1000≤n∧n≤1000 then a_ (.ok (.str (m5 i n))) else ck) Q:=o
   by_cases hc:i.length≤1000∧-1000≤n∧n≤1000
   · rw [if_pos hc] at o2
     exact .inl ⟨i,n,rx,ry,hc,o2 _ H (.refl H) rfl⟩
   · rw [if_neg hc] at o2
     exact o2.elim
  | _=>exact (show False from o).elim
 | _=>exact .inr (yT _ _ x y H Q rx ry o)
end
end FD
namespace FD
open PySem PySem.Spec PyProof.Rows L2 PySem.W
def xiB (K:c_) (C:i_):Bool:=findIn K (.ref C) "__getattribute__" == a_ (a_ (.builtin "BaseException.__getattribute__")) && findIn K (.ref C) "__getattr__" == a_ ck && findIn K (.ref C) "__class__" == a_ (a_ (.builtin "object.__class__")) &&
 specialIn K (.builtin "object.__class__") "__get__" == a_ (a_ (.builtin "getset_descriptor.__get__")) && takesIn K (.builtin "object.__class__") == a_ e_ && mroIn K C (.type "object") == a_ e_ && mroIn K C (.type "BaseException") == a_ e_
theorem CH {K:c_} {C:i_} (h:xiB K C=e_):XI K C:=by
 unfold xiB at h
 simp only [l_,beq_iff_eq] at h
 exact ⟨h.1.1.1.1.1.1,h.1.1.1.1.1.2,h.1.1.1.1.2,h.1.1.1.2,h.1.1.2,h.1.2,h.2⟩
structure XAll (K:c_) (m:Nat) (cls:Nat→i_) (CJ:i_):Prop where
 at_:∀ c,c < m→nsIn K rl (xnm c)=a_ (a_ (.ref (cls c)))∧excIn K (cls c) bmV "ValueError.__new__"=e_∧XI K (cls c)∧mroIn K (cls c) (.ref CJ)=a_ e_∧kitOne K (.ref (cls c)) (.type "ValueError")=a_ e_∧∀ d,d < m→kitOne K (.ref (cls c)) (.ref (cls d))=a_ (c == d)
 exJ:excIn K CJ bmV "ValueError.__new__"=e_
section
variable {K:c_} {m:Nat} {cls:Nat→i_} {CJ:i_} (x:XAll K m cls CJ)
include x
theorem XAll.xc (c:Nat) (h:c < m):XC K c (cls c):=⟨(x.at_ c h).1,(x.at_ c h).2.1⟩
theorem XAll.same {c:Nat} {C:i_} (h:c < m) (q:nsIn K rl (xnm c)=a_ (a_ (.ref C))):C=cls c:=by
 have z:=(x.at_ c h).1
 rw [q] at z
 cases z
 rfl
theorem XAll.xk:∀ c C,c < m→nsIn K rl (xnm c)=a_ (a_ (.ref C))→excIn K C bmV "ValueError.__new__"=e_∧mroIn K C (.ref CJ)=a_ e_:=fun c C h q=>by
 rw [x.same h q]
 exact ⟨(x.at_ c h).2.1,(x.at_ c h).2.2.2.1⟩
theorem XAll.xtO (d:Nat) (hd:d < m):XT K (fun c=>if c < m then a_ (c == d) else ck) (.ref (cls d)):=fun c b hb C q=>by
 dsimp only at hb
 split at hb
 · rename_i h
   cases hb
   rw [x.same h q]
   exact ⟨(x.at_ c h).2.2.1,(x.at_ c h).2.2.2.2.2 d hd⟩
 · cases hb
theorem XAll.xtV:XT K (fun c=>if c < m then a_ e_ else ck) (.type "ValueError"):=fun c b hb C q=>by
 dsimp only at hb
 split at hb
 · rename_i h
   cases hb
   rw [x.same h q]
   exact ⟨(x.at_ c h).2.2.1,(x.at_ c h).2.2.2.2.1⟩
 · cases hb
end
end FD
namespace FD
open PySem
theorem jQ:Go (b_ "ValueError")=a_ (.type "ValueError"):=by kernel_rfl
end FD
namespace FD
open PySem PySem.Spec PyProof.Rows L2
section
variable {X:Cx}
end
section
variable {X:Cx}
def bM (x y:Dv):Option (Rs Dv):=match x,y with
 | .tup a,.tup b=>if a.length + b.length≤100000 then a_ (.ok (.tup (a ++ b))) else ck
 | x,y=>cB x y
theorem sM {prog:n_} {w:y_} {A:w_} {E:d_→ge→Prop} {s:ge} {t b:i_} {ws:List d_} {Q:d_→ge→Prop} (ht:MT s.heap t #[]) (hb:MT s.heap b ws.toArray) (h0:Q (.ref b) s) :
 u_ (x_ prog w) A (GV .Add (.ref t) (.ref b)) Q E s:=by
 obtain ⟨⟨cls,dd,data,sl⟩,ho,hc,n,hd⟩:=id ht
 obtain ⟨⟨cls2,dd2,data2,sl2⟩,ho2,hc2,n2,hd2⟩:=id hb
 simp only at hc hd hc2 hd2
 subst hc hd hc2 hd2
 exact L4 ⟨_,ho,rfl⟩ ⟨_,ho2,rfl⟩ Ko LF IS IJ (Iu _ _)
  (tuple_addW0 t b #[] ws.toArray n n2 dd dd2 sl sl2 (by simp)) ⟨ho,ho2,h0⟩
def uE (K:c_):R2:=fun x y H Q=>∃ a b ys,x=.ref a∧y=.ref b∧SqT K H a []∧SqT K H b ys∧Q (.ref b) H
theorem sN:OpR X (GV .Add) (uE X.K):=by
 intro pins s σ H x y v u Q I rx ry h
 obtain ⟨a,b,ys,rfl,rfl,ha,hb,q⟩:=h
 cases rx
 cases ry
 obtain ⟨its,r1,p1,_⟩:=I.tuple ha
 obtain ⟨its2,r2,p2,_⟩:=I.tuple hb
 cases r1
 exact sM p1 p2 ⟨.ref b,H,I,rfl,q⟩
def zv (X:Cx):R2:=fun x y H Q=>vv x y H Q∨(ym X.K x y H Q∨uE X.K x y H Q)
theorem zw:OpR X (GV .Add) (zv X):=o_add.or (op_catT.or sN)
theorem p8 {x y:Dv} (h:∀ a b,¬ (x=.tup a∧y=.tup b)):bM x y=cB x y:=by
 unfold bM
 split
 · rename_i a b
   exact absurd ⟨rfl,rfl⟩ (h a b)
 · rfl
theorem zx:GOp X (zv X) bM:=by
 intro dx dy x y H Q rx ry o
 by_cases hc:∃ a b,dx=.tup a∧dy=.tup b
 · obtain ⟨a,b,rfl,rfl⟩:=hc
   have o':Out X H (if a.length + b.length≤100000 then a_ (.ok (.tup (a ++ b))) else ck) Q:=o
   split at o'
   · rename_i hl
     obtain ⟨p,xs,rfl,h1,q1⟩:=rx.tupE
     obtain ⟨p2,ys,rfl,h2,q2⟩:=ry.tupE
     cases xs with
     | nil =>
      have ha:a=[]:=by
       have:=q1.length
       exact HH.mp this.symm
      subst ha
      exact .inr (.inr ⟨p,p2,ys,rfl,rfl,SqT.of h1,SqT.of h2,o' _ H (.refl H) ⟨p2,ys,rfl,h2,by simpa using q2⟩⟩)
     | cons x0 xs =>
      refine .inr (.inl ⟨p,p2,x0 :: xs,ys,rfl,rfl,SqT.of h1,SqT.of h2,by simp,by rw [q1.length,q2.length]; exact bG hl,fun hy=>?_,fun hy l hl=>o' _ _ (aq hl _) ⟨l,_,rfl,ao,Reps.mono (aq hl _) _ _ (q1.append q2)⟩⟩)
      subst hy
      have hb:b=[]:=HH.mp q2.length.symm
      subst hb
      exact o' _ H (.refl H) ⟨p,_,rfl,h1,by simpa using q1⟩
   · exact o'.elim
 · rw [p8 (fun a b h=>hc ⟨a,b,h⟩)] at o
   exact .inl (yS dx dy x y H Q rx ry o)
theorem fP {prog:n_} {w:y_} {A:w_} {E:d_→ge→Prop} {s:ge} {t sl:i_} {items:Array d_} {vl vu:d_} {lo hi:Option Int} {Q:d_→ge→Prop} (ht:MT s.heap t items) (hs:s.heap.IsSliceOf sl vl vu .none) (pl:KQ vl lo) (pu:KQ vu hi)
 (hw:HT.sIx items.size 0 lo=0∧HT.sIx items.size items.size hi=items.size) (h:Q (.ref t) s):u_ (x_ prog w) A (KM (.ref t) (.ref sl)) Q E s:=by
 obtain ⟨os,hos,hcs,hds⟩:=id hs
 have hTs:s.TypeIs (.ref sl) "slice":=⟨os,hos,hcs⟩
 unfold KM
 try with_reducible refine GL ?_
 first | refine g_ (j_ ?_) | skip
 refine g_ (wpAny_sequenceKey ht.typeIs (by decide) ?_)
 refine g_ (Kn (name:=b_ "__getitem__") ht.typeIs Gh
  (wpAny_call_entry Gh ht.typeIs entry_tuple_getitem ?_ (args_tuple_getitem _ _)))
 show u_ _ _ (JQ (.ref t) >>= _) _ _ s
 refine g_ (tupleItemsOf_ ht ?_)
 refine g_ (Jy hTs ?_)
 rw [if_pos (by decide)]
 refine g_ (HT.sliceApplied_gen hs pl pu ?_)
 have hyes:(((HT.sIx items.size 0 lo:Nat):Int) == 0 && (1:Int) == 1 && (HT.sIx items.size items.size hi - HT.sIx items.size 0 lo) == items.size)=e_:=by
  rw [hw.1,hw.2]
  simp
 show u_ _ _ (if (((HT.sIx items.size 0 lo:Nat):Int) == 0 && (1:Int) == 1 && (HT.sIx items.size items.size hi - HT.sIx items.size 0 lo) == items.size)=e_ then _ else _) _ _ s
 rw [if_pos hyes]
 refine g_ (g_ (Jy ht.typeIs (j_ ?_)))
 rw [if_pos (by decide)]
 exact g_ (KH (j_ ⟨_,rfl,j_ h⟩))
def ET (K:c_):V→Option Int→Option Int→Hp→VK→Prop:=fun x lo hi H Q=>∃ a xs,x=.ref a∧SqT K H a xs ∧
 (HT.sIx xs.length 0 lo=0∧HT.sIx xs.length xs.length hi=xs.length)∧Q (.ref a) H
theorem sO:SlR X (ET X.K):=by
 intro pins s σ H x v vl vu lo hi sl Q I rx hs pl pu h
 obtain ⟨a,xs,rfl,hx,hw,q⟩:=h
 cases rx
 obtain ⟨its,r,ht,hz⟩:=I.tuple hx
 have hlen:its.toArray.size=xs.length:=by rw [uk]; exact r.length.symm
 refine ⟨"tuple",_,Gh.lookup,ht.typeIs,?_⟩
 exact fP ht hs pl pu (by rw [hlen]; exact hw) ⟨.ref a,H,I,rfl,q⟩
def Eh (x:Dv) (lo hi:Option Int):Option (Rs Dv):=match x with
 | .tup xs=>a_ (.ok (.tup (vB xs lo hi)))
 | x=>Br x lo hi
def jR (fa:FnE) (fl fh:FnO):FnE:=fun ρ=>bnd (fa ρ) fun x=>bnd (fl ρ) fun lo=>bnd (fh ρ) fun hi=>Eh x lo hi
theorem oi {α:Type} {xs:List α} {lo hi:Option Int} (h:HT.sIx xs.length 0 lo=0∧HT.sIx xs.length xs.length hi=xs.length):vB xs lo hi=xs:=by
 unfold vB
 rw [h.1,h.2]
 simp
theorem vS {a:C_} {lo hi:Option C_} {fa:FnE} {fl fh:FnO} {p2 pos:Pos} (ha:FE X a fa) (hl:FO X lo fl) (hh:FO X hi fh):FE X (.Subscript a (.Slice lo hi ck p2) pos) (jR fa fl fh) :=
 cA (mM ((sl_str.or pr).or (sl_tup.or sO)) ha.h hl.h hh.h) fun σ H Q ρ E o=>⟨ρ,E,Out.bind o fun d v H1 e1 r1 o1=>⟨ρ,E.mono e1,gl o1 fun l H2 e2 o2=>⟨ρ,(E.mono e1).mono e2,gl o2 fun u H3 e3 o3=>by
  have r3:=Rep.mono e3 d v (Rep.mono e2 d v r1)
  cases d <;> try exact (show False from o3).elim
  · rename_i z
    unfold Eh Br at o3
    dsimp only at o3
    split at o3
    · rename_i hz
      exact .inl (.inl ⟨z,r3,bG hz,o3 _ H3 (.refl H3) rfl⟩)
    · exact o3.elim
  · rename_i ds
    obtain ⟨a',xs,rfl,h1,h2⟩:=r3.tupE
    have hlen:=h2.length
    by_cases hw:HT.sIx xs.length 0 l=0∧HT.sIx xs.length xs.length u=xs.length
    · refine .inr (.inr ⟨a',xs,rfl,SqT.of h1,hw,o3 _ H3 (.refl H3) ⟨a',xs,rfl,h1,?_⟩⟩)
      rw [oi (by rw [← hlen]; exact hw)]
      exact h2
    · refine .inr (.inl ⟨a',xs,rfl,SqT.of h1,hw,fun p hp=>o3 _ _ (aq hp _) ⟨p,_,rfl,ao,Reps.mono (aq hp _) _ _ ?_⟩⟩)
      unfold rX vB
      rw [h2.length]
      exact (h2.drop _).take _
  · rename_i ds
    obtain ⟨a',xs,rfl,h1,h2⟩:=r3.lstE
    refine .inl (.inr ⟨a',xs,rfl,SqL.of h1,fun p hp=>o3 _ _ (aq hp _) ⟨p,_,rfl,ao,Reps.mono (aq hp _) _ _ ?_⟩⟩)
    unfold rX vB
    rw [h2.length]
    exact (h2.drop _).take _⟩⟩⟩
theorem fI {α β:Type} {f:α→Option β} {g:α→β}:∀ (l:List α),(∀ m,m∈l→f m=a_ (g m))→l.filterMap f=l.map g
 | [],_=>rfl
 | x :: l,h=>by
  rw [HB,h x (by simp),FV,fI l fun m hm=>h m (on _ hm)]
theorem p9 (xs:List d_):((pi xs.length).filterMap fun (m:Nat)=>xs.toArray[((xs.length:Int) - 1 + (m:Int) * -1).toNat]?).toArray=xs.reverse.toArray:=by
 congr 1
 apply Mi
 have e:∀ m,m∈pi xs.length→(xs.toArray[((xs.length:Int) - 1 + (m:Int) * -1).toNat]?)=a_ (xs.reverse[m]?.getD .none):=fun m hm=>by
  have hm':m < xs.length:=Gr.mp hm
  have h1:((xs.length:Int) - 1 + (m:Int) * -1).toNat=xs.length - 1 - m:=by omega
  rw [h1,K9,List.getElem?_reverse hm',xy (by omega)]
  rfl
 intro i
 rw [fI _ e]
 by_cases hi:i < xs.length
 · rw [FY,Ir hi]
   show a_ (xs.reverse[i]?.getD .none)=_
   rw [xy (by simpa using hi)]
   rfl
 · rw [GW (by simpa using hi),GW (by simpa using hi)]
theorem Reps.reverse {K:c_} {H:Hp}:∀ {ds:List Dv} {vs:List V},Reps K H ds vs→Reps K H ds.reverse vs.reverse
 | [],vs,r=>by cases (show vs=[] from r); exact r
 | d :: ds,vs,r=>by
  obtain ⟨v,us,rfl,r1,r2⟩:∃ v us,vs=v :: us∧Rep K H d v∧Reps K H ds us:=r
  rw [Hr,Hr]
  exact (Reps.reverse r2).append ⟨v,[],rfl,r1,rfl⟩
theorem Vals.reverse:∀ {xs:List V} {us:List d_},Vals xs us→Vals xs.reverse us.reverse
 | _,_,.nil=>.nil
 | x :: xs,u :: us,.cons r t=>by
  rw [Hr,Hr]
  exact (Vals.reverse t).append (.cons r .nil)
def kK:List Dv→Option (Rs Dv)
 | [.lst xs]=>a_ (.ok (.lst xs))
 | [.tup xs]=>a_ (.ok (.lst xs))
 | _=>ck
theorem vT {p pos:Pos} {e:C_} {es:List C_} {ga:FnA} (hg:Gl X "list") (hm:X.mg "list"=ck) (ha:FA X (e :: es) ga) (he:h_ (e :: es) X.env=(f_,eval e X.env) :: h_ es X.env:=by kernel_rfl) (hpl:(FP pos (h_ es X.env)).any (·.1)=f_:=by kernel_rfl):FE X (.Call (.Name "list" p) (e :: es) [] pos) (fB1 kK ga) :=
 cA (km kr hg hm (by decide +kernel) ha.h (by decide) (by decide) he hpl) fun σ H Q ρ E o=>⟨ρ,E,OutA.bind o fun ds vs H1 e1 rs o1=>by
  unfold kK at o1
  split at o1
  · rename_i xs
    obtain ⟨v,rfl,r⟩:=cV rs
    obtain ⟨a,ws,rfl,h1,h2⟩:=r.lstE
    exact ⟨a,ws,rfl,.inl (SqL.of h1),fun l hl=>o1 _ _ (aq hl _) ⟨l,ws,rfl,ao,Reps.mono (aq hl _) _ _ h2⟩⟩
  · rename_i xs
    obtain ⟨v,rfl,r⟩:=cV rs
    obtain ⟨a,ws,rfl,h1,h2⟩:=r.tupE
    exact ⟨a,ws,rfl,.inr (SqT.of h1),fun l hl=>o1 _ _ (aq hl _) ⟨l,ws,rfl,ao,Reps.mono (aq hl _) _ _ h2⟩⟩
  · exact o1.elim⟩
def inP (x:Dv) (ys:List Dv):Option Bool:=if okP x && t_ ((cy x).depth≤63) && GQ (toPys ys) then a_ ((toPys ys).any fun y=>Ge y (cy x)) else ck
def By (x y:Dv):Option Bool:=match xB x y with
 | some b=>a_ b
 | none=>match y with
  | .lst ys=>inP x ys
  | .tup ys=>inP x ys
  | _=>ck
def inX (x y:Dv):Option (Rs Dv):=match By x y with
 | some b=>a_ (.ok (.bl b))
 | none=>ck
def m8 (x y:Dv):Option (Rs Dv):=match By x y with
 | some b=>a_ (.ok (.bl (!b)))
 | none=>ck
def Ei (X:Cx) (neg:Bool):R2:=fun x y H Q=>∃ dx ys b,Rep X.K H dx x∧(Rep X.K H (.lst ys) y∨Rep X.K H (.tup ys) y)∧inP dx ys=a_ b∧Q (.bl (if neg then !b else b)) H
theorem zy (hu:X.A.units + 64 < cLine):OpR X (F9 .In) (Ei X f_):=by
 intro pins s σ H x y v u Q I rx ry h
 obtain ⟨dx,ys,b,qx,qy,hb,q⟩:=h
 unfold inP at hb
 split at hb
 · rename_i hc
   cases hb
   obtain ⟨⟨c1,c2⟩,c3⟩:(okP dx=e_∧(cy dx).depth≤63)∧GQ (toPys ys)=e_:=by simpa using hc
   obtain ⟨as,ra⟩:=Rep.reads I dx x v qx rx (GJ.mp c1).1
   have hd:X.A.units + 1 + min (Iz (toPys ys)) (cy dx).depth < cLine:=by
    have:=Mz (Iz (toPys ys)) (cy dx).depth
    omega
   rcases qy with qy | qy
   · obtain ⟨bs,rb⟩:=Rep.reads I (.lst ys) y u qy ry (by simpa [cy,Gm] using c3)
     exact SeqAt.in_list_reads rb ra c3 (GJ.mp c1).1 hd ⟨.bl _,H,I,rfl,q⟩
   · obtain ⟨bs,rb⟩:=Rep.reads I (.tup ys) y u qy ry (by simpa [cy,Gm] using c3)
     exact SeqAt.in_tuple_reads rb ra c3 (GJ.mp c1).1 hd ⟨.bl _,H,I,rfl,q⟩
 · cases hb
def Ej (X:Cx):R2:=fun x y H Q=>Co X.K x y H Q∨Ei X f_ x y H Q
theorem CI (hu:X.A.units + 64 < cLine):OpR X (F9 .In) (Ej X):=o_in.or (zy hu)
theorem CK:GOp X (Ej X) inX:=by
 intro dx dy x y H Q rx ry o
 unfold inX By at o
 match h0:xB dx dy with
 | some b =>
  rw [h0] at o
  exact .inl (Cp dx dy x y H Q rx ry (by unfold inD; rw [h0]; exact o))
 | none =>
  rw [h0] at o
  cases dy <;> try exact (show False from o).elim
  · rename_i ys
    match hp:inP dx ys with
    | none=>simp only [hp] at o; exact (show False from o).elim
    | some b=>simp only [hp] at o; exact .inr ⟨dx,ys,b,rx,.inr ry,hp,o _ H (.refl H) rfl⟩
  · rename_i ys
    match hp:inP dx ys with
    | none=>simp only [hp] at o; exact (show False from o).elim
    | some b=>simp only [hp] at o; exact .inr ⟨dx,ys,b,rx,.inl ry,hp,o _ H (.refl H) rfl⟩
def Bz:Str→List Dv→Option (Rs Dv)
 | x,[.str y]=>match FQ x y 0 x.length 1 with
  | i :: _=>a_ (.ok (.int i))
  | []=>ck
 | _,_=>ck
def Ek:V→List V→Hp→VK→Prop:=fun x xs H Q=>∃ i j k l,x=.str i∧xs=[.str j]∧FQ i j 0 i.length 1=k :: l∧Q (.int (k:Nat)) H
theorem zz:MtR X "str.index" Ek:=by
 intro pins s σ H x xs v us Q I rx rs h
 obtain ⟨i,j,k,l,rfl,rfl,ho,q⟩:=h
 obtain ⟨t,rfl⟩:=rx
 obtain ⟨u,rfl,ru⟩:=eC rs
 obtain ⟨t',rfl⟩:=ru
 exact SC.index ho ⟨.int _,H,I.tok _,⟨_,rfl⟩,q⟩
theorem CL (i:Str) (ds:List Dv) (vs:List V) (H:Hp) (Q:VK) (rs:Reps X.K H ds vs) (o:Out X H (Bz i ds) Q):Ek (.str i) vs H Q:=by
 unfold Bz at o
 split at o
 · rename_i j
   obtain ⟨w,rfl,rw'⟩:=cV rs
   cases (show w=.str j from rw')
   match hk:FQ i j 0 i.length 1 with
   | []=>rw [hk] at o; exact o.elim
   | k :: l=>rw [hk] at o; exact ⟨i,j,k,l,rfl,rfl,hk,o _ H (.refl H) rfl⟩
 · exact o.elim
end
abbrev vU (its:List d_) (n:Nat):Obj:={ cls:=.type "list",data:=.seq its.toArray n }
section
variable {X:Cx} {pins:List (i_×Obj)} {σ:L2.St} {H:Hp} {s:ge} {a:i_} {xs:List V}
theorem Inv.untrack (I:Inv X pins σ (upd H a (.lst xs)) s) (ha:H a=ck) (hex:X.ex=[]):∃ its n,Vals xs its∧xs.length≤sizeLine∧(∀ o,X.s₀.heap.get? a=a_ o→X.H₀ a≠ck)∧(∀ p∈X.pn ++ pins,p.1≠a)∧Inv X (pins ++ [(a,vU its n)]) σ H s:=by
 obtain ⟨z,its,n,rv,hl,e⟩:=I.lstM (l:=a) (xs:=xs) ao
 have hb:∀ b u,H b=a_ u→b≠a:=fun b u q=>av q ha
 have low:∀ b,upd H a (.lst xs) b=ck→H b=ck:=fun b q=>by
  by_cases hba:b=a
  · rw [hba]; exact ha
  · rw [au hba] at q; exact q
 have dn:∀ b u,upd H a (.lst xs) b=a_ u→(∀ ys,u≠.lst ys)→H b=a_ u:=fun b u q hu=>by
  by_cases hba:b=a
  · rw [hba,ao] at q
    exact absurd (F0 q).symm (hu xs)
  · rw [au hba] at q; exact q
 have nfs:a ∉ X.fs:=fun hm=>by
  obtain ⟨_,o,ho,_⟩:=I.ok.funs.mem hm
  have:=I.base.free a o ho (I.ok.frf a hm) (by rw [hex]; simp)
  rw [ao] at this
  cases this
 have npin:∀ p∈X.pn ++ pins,p.1≠a:=fun p hp w=>by
  have:=(I.pin p hp).2.1
  rw [w,ao] at this
  cases this
 refine ⟨its,n,rv,z,fun o ho h0=>?_,npin,⟨I.ok,I.os,I.bare,⟨I.base.keep,I.base.slot,fun b o q n hx=>low b (I.base.free b o q n hx),I.base.there,fun b ys q=>dn b _ (I.base.tups b ys q) (fun _ w=>by cases w),fun b o u q=>dn b _ (I.base.frzs b o u q) (fun _ w=>by cases w),fun b ps q=>?_⟩,I.loc,I.cell,low _ I.free,fun x c q=>low _ (I.freeC x c q),fun p hp=>?_,fun b u q=>?_,I.len⟩⟩
 · have:=I.base.free a o ho h0 (by rw [hex]; simp)
   rw [ao] at this
   cases this
 · obtain ⟨more,q'⟩:=I.base.tbls b ps q
   exact ⟨more,dn b _ q' (fun _ w=>by cases w)⟩
 · rcases Ga.mp hp with h1 | h1
   · obtain ⟨q1,q2,q3⟩:=I.pin p (FH _ h1)
     exact ⟨q1,low _ q2,q3⟩
   · rcases Ga.mp h1 with h1 | h1
     · obtain ⟨q1,q2,q3⟩:=I.pin p (s_ _ h1)
       exact ⟨q1,low _ q2,q3⟩
     · simp only [GG] at h1
       subst h1
       refine ⟨e,ha,fun w=>?_,nfs,fun v w=>by cases w⟩
       obtain ⟨m,⟨o,es,ep,ho,hd,_⟩,_⟩:=I.loc
       have w':a=X.env.locals:=w
       rw [← w',e] at ho
       cases ho
       cases hd
 · have hq:upd H a (.lst xs) b=a_ u:=by rw [au (hb b u q)]; exact q
   refine (I.hok b u hq).stay (fun _ _ _ w=>w) (fun c w=>dn c _ w (fun _ w=>by cases w)) (fun c ys w=>dn c _ w (fun _ w=>by cases w)) fun c _ _ w=>dn c _ w (fun _ w=>by cases w)
theorem Inv.retrack {its:List d_} {n:Nat} (I:Inv X (pins ++ [(a,vU its n)]) σ H s) (rv:Vals xs its) (hz:xs.length≤sizeLine) (h0:∀ o,X.s₀.heap.get? a=a_ o→X.H₀ a≠ck) (hp0:∀ p∈X.pn ++ pins,p.1≠a):H a=ck∧Inv X pins σ (upd H a (.lst xs)) s:=by
 obtain ⟨e,ha,nL,nf,nc⟩:=I.pin (a,vU its n) (s_ _ (s_ _ (by simp)))
 have up:∀ b u,H b=a_ u→upd H a (.lst xs) b=a_ u:=fun b u q=>by rw [au (av q ha)]; exact q
 have lo:∀ b,H b=ck→b≠a→upd H a (.lst xs) b=ck:=fun b q h=>by rw [au h]; exact q
 refine ⟨ha,⟨I.ok,I.os,I.bare,⟨I.base.keep,I.base.slot,fun b o q n hx=>lo b (I.base.free b o q n hx) (fun w=>h0 o (w ▸ q) (w ▸ n)),I.base.there,fun b ys q=>up b _ (I.base.tups b ys q),fun b o u q=>up b _ (I.base.frzs b o u q),fun b ps q=>?_⟩,I.loc,I.cell,lo _ I.free (IX nL),fun x c q=>lo _ (I.freeC x c q) (fun w=>?_),fun p hp=>?_,fun b u q=>?_,I.len⟩⟩
 · obtain ⟨more,q'⟩:=I.base.tbls b ps q
   exact ⟨more,up b _ q'⟩
 · obtain ⟨v,o,ho,hd⟩:=I.cell x c q
   rw [w] at ho
   have e':s.heap.get? a=a_ (vU its n):=e
   rw [e'] at ho
   cases ho
   cases hd
 · obtain ⟨q1,q2,q3⟩:=I.pin p (by
    rcases Ga.mp hp with h1 | h1
    · exact FH _ h1
    · exact s_ _ (FH _ h1))
   exact ⟨q1,lo _ q2 (hp0 p hp),q3⟩
 · by_cases hb:b=a
   · subst hb
     rw [ao] at q
     cases q
     exact ⟨hz,its,n,rv,e⟩
   · rw [au hb] at q
     exact (I.hok b u q).stay (fun _ _ _ w=>w) (fun c w=>up c _ w) (fun c ys w=>up c _ w) fun c _ _ w=>up c _ w
end
def CM (t:TE):TE:=fun σ Hf Q=>∃ H a xs,Hf=upd H a (.lst xs)∧H a=ck∧t σ H fun v H'=>H' a=ck→Q v (upd H' a (.lst xs))
def CN (t:TA):TA:=fun σ Hf Q=>∃ H a xs,Hf=upd H a (.lst xs)∧H a=ck∧t σ H fun v H'=>H' a=ck→Q v (upd H' a (.lst xs))
def CO (t:TI):TI:=fun σ Hf Q=>∃ H a xs,Hf=upd H a (.lst xs)∧H a=ck∧t σ H fun v H'=>H' a=ck→Q v (upd H' a (.lst xs))
section
variable {X:Cx} {e:C_} {es:List C_}
theorem vV (hex:X.ex=[]) {t:TE} (h:PE X e t):PE X e (CM t):=by
 intro pins s σ Hf Q I ⟨H,a,xs,e1,ha,q⟩
 subst e1
 obtain ⟨its,n,rv,hz,h0,hp,I'⟩:=Inv.untrack I ha hex
 refine thn (h _ s σ H _ I' q) fun u s' ⟨v,H',I2,r,q2⟩=>?_
 obtain ⟨ha',I3⟩:=Inv.retrack I2 rv hz h0 hp
 exact ⟨v,_,I3,r,q2 ha'⟩
theorem vW (hex:X.ex=[]) {t:TA} (h:PA X es t):PA X es (CN t):=by
 intro pos pins s σ Hf Q I ⟨H,a,xs,e1,ha,q⟩
 subst e1
 obtain ⟨its,n,rv,hz,h0,hp,I'⟩:=Inv.untrack I ha hex
 refine thn (h pos _ s σ H _ I' q) fun u s' ⟨v,H',I2,r,q2⟩=>?_
 obtain ⟨ha',I3⟩:=Inv.retrack I2 rv hz h0 hp
 exact ⟨v,_,I3,r,q2 ha'⟩
theorem vX (hex:X.ex=[]) {tg:C_} {t:TI} (h:PI X tg e t):PI X tg e (CO t):=by
 intro pins s σ Hf R I ⟨H,a,xs,e1,ha,q⟩
 subst e1
 obtain ⟨its,n,rv,hz,h0,hp,I'⟩:=Inv.untrack I ha hex
 refine thn (h _ s σ H _ I' q) fun u s1 hs1=>thn hs1 fun itv s2 ⟨it,fp,tn,J,H',e2,I2,T,t0,fpo,q2⟩=>?_
 obtain ⟨ha',I3⟩:=Inv.retrack I2 rv hz h0 hp
 refine ⟨it,fp,tn,J,_,e2,I3,T,t0,fun b hb=>?_,q2 ha'⟩
 obtain ⟨g0,g1,g2,g3,g4,g5⟩:=fpo b hb
 have hba:b≠a:=fun w=>g5 (a,vU its n) (s_ _ (s_ _ (by simp))) w.symm
 refine ⟨by rw [au hba]; exact g0,g1,g2,g3,g4,fun p hp'=>g5 p ?_⟩
 rcases Ga.mp hp' with w | w
 · exact FH _ w
 · exact s_ _ (FH _ w)
end
mutual
def imm:Dv→Bool
 | .non=>e_
 | .bl _=>e_
 | .int _=>e_
 | .str _=>e_
 | .tup ds=>imms ds
 | .lst _=>f_
 | .scr _=>f_
 | .exn _=>f_
def imms:List Dv→Bool
 | []=>e_
 | d :: ds=>imm d && imms ds
end
section
variable {K:c_} {H H':Hp}
mutual
theorem Rep.tups (k:∀ b ys,H b=a_ (.tup ys)→H' b=a_ (.tup ys)):∀ (d:Dv) (v:V),imm d=e_→Rep K H d v→Rep K H' d v
 | .non,_,_,h=>h
 | .bl _,_,_,h=>h
 | .int _,_,_,h=>h
 | .str _,_,_,h=>h
 | .tup ds,v,i,h=>by
  obtain ⟨a,xs,r,h,q⟩:=h.tupE
  exact ⟨a,xs,r,k _ _ h,Reps.tups k ds xs (by simpa [imm] using i) q⟩
 | .lst _,_,i,_=>by simp [imm] at i
 | .scr _,_,i,_=>by simp [imm] at i
 | .exn _,_,i,_=>by simp [imm] at i
theorem Reps.tups (k:∀ b ys,H b=a_ (.tup ys)→H' b=a_ (.tup ys)):∀ (ds:List Dv) (vs:List V),imms ds=e_→Reps K H ds vs→Reps K H' ds vs
 | [],_,_,h=>h
 | d :: ds,vs,i,h=>by
  obtain ⟨v,us,r,h,q⟩:∃ v us,vs=v :: us∧Rep K H d v∧Reps K H ds us:=h
  have i':imm d=e_∧imms ds=e_:=by simpa [imms] using i
  exact ⟨v,us,r,Rep.tups k d v i'.1 h,Reps.tups k ds us i'.2 q⟩
end
end
inductive Fo where
 | nx (ρ:Ev) (ds:List Dv)
 | rt (d:Dv)
abbrev iZ:=Ev→List Dv→Option Fo
def OutW (X:Cx) (i:Nat) (a:i_) (H:Hp) (o:Option Fo) (D:oN):Prop:=match o with
 | none=>False
 | some (.rt d)=>∀ v H',Same H H'→Rep X.K H' d v→D.rt v H'
 | some (.nx ρ ds)=>∀ σ H' xs,Same H H'→H' a=ck→σ[i]?=a_ (a_ (.ref a))→Envs X.K H' σ ρ→Reps X.K H' ds xs→D.nx σ (upd H' a (.lst xs))
theorem OutW.mono {X:Cx} {i:Nat} {a:i_} {H H':Hp} {D:oN} (e:Same H H'):∀ {o:Option Fo},OutW X i a H o D→OutW X i a H' o D
 | none,h=>h
 | some (.rt _),h=>fun v H1 e1 r=>h v H1 (e.trans e1) r
 | some (.nx _ _),h=>fun σ H1 xs e1=>h σ H1 xs (e.trans e1)
def tO (X:Cx) (i:Nat) (f:iZ):TS:=fun D σ Hf=>∃ H a xs ρ ds,Hf=upd H a (.lst xs)∧H a=ck∧σ[i]?=a_ (a_ (.ref a))∧Envs X.K H σ ρ∧Reps X.K H ds xs∧OutW X i a H (f ρ ds) D
structure FO1 (X:Cx) (i:Nat) (st:GT) (f:iZ):Prop where
 h:PS X st (tO X i f)
structure FOs (X:Cx) (i:Nat) (st:List GT) (f:iZ):Prop where
 h:PSs X st (tO X i f)
def xE {α:Type} (o:Option (Rs α)) (k:α→Option Fo):Option Fo:=match o with
 | some (.ok a)=>k a
 | _=>ck
def BA:iZ:=fun ρ ds=>a_ (.nx ρ ds)
def fQ (f g:iZ):iZ:=fun ρ ds=>match f ρ ds with
 | some (.nx ρ' ds')=>g ρ' ds'
 | o=>o
def gs (j:Nat) (f:FnE):iZ:=fun ρ ds=>xE (f ρ) fun d=>a_ (.nx (ρ.set j (a_ d)) ds)
def vY (i:Nat) (c:FnB) (f g:iZ):iZ:=fun ρ ds=>xE (c (ρ.set i (a_ (.lst ds)))) fun k=>if k then f ρ ds else g ρ ds
def xF (i:Nat) (f:FnE):iZ:=fun ρ ds=>xE (f (ρ.set i (a_ (.lst ds)))) fun d=>a_ (.rt d)
def xG (f:FnE):iZ:=fun ρ ds=>if ds.length < 100000 then xE (f ρ) fun d=>a_ (.nx ρ (ds ++ [d])) else ck
section
variable {X:Cx} {i:Nat} {st:GT} {sts:List GT} {f g:iZ} {fe:FnE} {gb:FnB} {e c:C_} {pos:Pos}
theorem qa {H Hf:Hp} {a:i_} {xs:List V} (ha:H a=ck) (e:Same (upd H a (.lst xs)) Hf):∃ H',Hf=upd H' a (.lst xs)∧H' a=ck∧Same H H':=by
 refine ⟨fun b=>if b=a then ck else Hf b,?_,by simp,fun b u q=>?_⟩
 · funext b
   by_cases hb:b=a
   · subst hb
     rw [ao]
     exact e b _ ao
   · rw [au hb]
     simp [hb]
 · have hb:b≠a:=av q ha
   simp only [hb,if_false]
   exact e b u (by rw [au hb]; exact q)
theorem eM {H:Hp} {a:i_} {xs:List V} (ha:H a=ck):Same H (upd H a (.lst xs)):=aq ha _
theorem iD {H:Hp} {a:i_} {xs:List V} {σ:L2.St} {ρ:Ev} {ds:List Dv} (ha:H a=ck) (hi:σ[i]?=a_ (a_ (.ref a))) (E:Envs X.K H σ ρ) (r:Reps X.K H ds xs):Envs X.K (upd H a (.lst xs)) σ (ρ.set i (a_ (.lst ds))):=by
 have E':=E.mono (eM (xs:=xs) ha)
 refine ⟨by rw [GU]; exact E'.len,fun j d hj=>?_⟩
 by_cases hij:i=j
 · subst hij
   by_cases hl:i < ρ.length
   · rw [F7 hl] at hj
     cases hj
     exact ⟨.ref a,hi,a,xs,rfl,ao,Reps.mono (eM ha) _ _ r⟩
   · rw [GW (by rw [GU]; omega)] at hj
     cases hj
 · rw [Gf hij] at hj
   exact E'.at' j d hj
theorem vZ:FOs X i [] BA:=⟨fun pins s σ Hf D I ⟨H,a,xs,ρ,ds,e1,ha,hi,E,r,o⟩=>by
 subst e1
 exact oX pins s σ _ D I (o σ H xs (.refl H) ha hi E r)⟩
theorem sP (h1:FO1 X i st f) (h2:FOs X i sts g):FOs X i (st :: sts) (fQ f g):=⟨fun pins s σ Hf D I ⟨H,a,xs,ρ,ds,e1,ha,hi,E,r,o⟩=>by
 refine jE h1.h h2.h pins s σ Hf D I ⟨H,a,xs,ρ,ds,e1,ha,hi,E,r,?_⟩
 unfold fQ at o
 match hf:f ρ ds with
 | none=>rw [hf] at o; exact o.elim
 | some (.rt d)=>rw [hf] at o; exact o
 | some (.nx ρ' ds')=>rw [hf] at o; exact fun σ' H' xs' e' ha' hi' E' r'=>⟨H',a,xs',ρ',ds',rfl,ha',hi',E',r',OutW.mono e' o⟩⟩
theorem v3 (h1:FO1 X i st f):FOs X i [st] f:=⟨oY h1.h⟩
theorem zA (hex:X.ex=[]) (j:Nat) (hij:i≠j) {x:Str} {pos':Pos} (hN:X.N.Nodup) (hi:X.N[j]?=a_ x) (hx:Loc X.env.scope x) (he:FE X e fe) (hs:G7 e (a_ (.Name x pos')) pos.line X.env=pure f_:=by kernel_rfl) (hf:X.fn x=e_∨X.env.scope.names.lookup x=a_ .local:=by first | exact .inl rfl | exact .inr rfl | assumption) :
 FO1 X i (.Assign [.Name x pos'] e pos) (gs j fe):=⟨fun pins s σ Hf D I ⟨H,a,xs,ρ,ds,e1,ha,hia,E,r,o⟩=>by
 refine o5 hN hi hx (vV hex he.h) hs hf pins s σ Hf D I ⟨H,a,xs,e1,ha,ρ,E,?_⟩
 unfold gs at o
 match hfe:fe ρ with
 | none=>rw [hfe] at o; exact o.elim
 | some (.exc _)=>rw [hfe] at o; exact o.elim
 | some (.ok d) =>
  rw [hfe] at o
  exact fun v H' e' rd ha'=>o _ H' xs e' ha' (by rw [Gf (IX hij)]; exact hia) ((E.mono e').set rd) (Reps.mono e' _ _ r)⟩
theorem zB {as bs:List GT} (hc:FT X c gb) (ha:FOs X i as f) (hb:FOs X i bs g):FO1 X i (.If c as bs pos) (vY i gb f g):=⟨fun pins s σ Hf D I ⟨H,a,xs,ρ,ds,e1,ha',hia,E,r,o⟩=>by
 subst e1
 refine yf hc.h ha.h hb.h pins s σ _ D I ⟨_,iD ha' hia E r,?_⟩
 unfold vY at o
 match hg:gb (ρ.set i (a_ (.lst ds))) with
 | none=>rw [hg] at o; exact o.elim
 | some (.exc _)=>rw [hg] at o; exact o.elim
 | some (.ok e_) =>
  rw [hg] at o
  intro H2 e2
  obtain ⟨H',q1,q2,q3⟩:=qa ha' e2
  exact vh ⟨H',a,xs,ρ,ds,q1,q2,hia,E.mono q3,Reps.mono q3 _ _ r,OutW.mono q3 o⟩
 | some (.ok f_) =>
  rw [hg] at o
  intro H2 e2
  obtain ⟨H',q1,q2,q3⟩:=qa ha' e2
  exact vg ⟨H',a,xs,ρ,ds,q1,q2,hia,E.mono q3,Reps.mono q3 _ _ r,OutW.mono q3 o⟩⟩
theorem zC (he:FE X e fe):FO1 X i (.Return (a_ e) pos) (xF i fe):=⟨fun pins s σ Hf D I ⟨H,a,xs,ρ,ds,e1,ha',hia,E,r,o⟩=>by
 subst e1
 refine ud he.h pins s σ _ D I ⟨_,iD ha' hia E r,?_⟩
 unfold xF at o
 match hg:fe (ρ.set i (a_ (.lst ds))) with
 | none=>rw [hg] at o; exact o.elim
 | some (.exc _)=>rw [hg] at o; exact o.elim
 | some (.ok d)=>rw [hg] at o; exact fun v H2 e2 rd=>o v H2 ((eM ha').trans e2) rd⟩
theorem zD (hex:X.ex=[]) {x:Str} {apos cpos:Pos} (hx:PE X (.Name x apos) (xU i)) (he:FE X e fe)
 (hbase:HY (.Name x apos) "append" X.env (eval (.Name x apos) X.env)=eval (.Name x apos) X.env:=by kernel_rfl)
 (hfew:((FP cpos (h_ [e] X.env)).all (fun x=>!x.1) && (Ho cpos (GB [] X.env)).all (fun x=>x.1.isSome)
   && t_ ([e].length + ([]:List Hy).length + (if ([]:List Hy).isEmpty then 0 else 1) < 30))=e_:=by kernel_rfl)
 {ap:Pos} (hline:(ap.endLine == cpos.line)=e_:=by kernel_rfl) (hs:h_ [e] X.env=(f_,eval e X.env) :: h_ [] X.env:=by kernel_rfl) (hplain:(FP cpos (h_ [] X.env)).any (·.1)=f_:=by kernel_rfl)
 (hsw:G7 (.Call (.Attribute (.Name x apos) "append" ap) [e] [] cpos) ck pos.line X.env=pure f_:=by kernel_rfl) :
 FO1 X i (.Expr (.Call (.Attribute (.Name x apos) "append" ap) [e] [] cpos) pos) (xG fe):=⟨fun pins s σ Hf D I ⟨H,a,xs,ρ,ds,e1,ha',hia,E,r,o⟩=>by
 refine oZ (rY II Jo PySem.F.type_list_append pw hx (vW hex (lN he pE hs).h) hbase hfew hline hs hplain) hsw pins s σ Hf D I ?_
 unfold xG at o
 split at o
 · rename_i hl
   match hfe:fe ρ with
   | none=>rw [hfe] at o; exact o.elim
   | some (.exc _)=>rw [hfe] at o; exact o.elim
   | some (.ok d) =>
    rw [hfe] at o
    refine ⟨.ref a,hia,.inl ⟨rfl,xs,SqL.of (by rw [e1]; exact ao)⟩,H,a,xs,e1,ha',ρ,E,?_⟩
    show OutA X H (aa fe ah ρ) _
    rw [am hfe aI]
    intro vs H' e' rs ha2
    obtain ⟨v,rfl,rv⟩:=cV rs
    have hz:xs.length < sizeLine:=by
     have:=r.length
     have h2:=bG (n:=xs.length + 1) (by omega)
     omega
    refine ⟨a,xs,v,rfl,rfl,ao,hz,?_⟩
    rw [uS]
    exact o σ H' (xs ++ [v]) e' ha2 hia (E.mono e') ((Reps.mono e' _ _ r).append ⟨v,[],rfl,rv,rfl⟩)
 · exact o.elim⟩
end
def xH (i:Nat) (g:FnA) (f:iZ):FnS:=fun ρ=>cg (g ρ) fun ds=>if ds.length≤100000 then (match f (ρ.set i ck) ds with
 | some (.nx ρ' ds')=>a_ (.nx (ρ'.set i (a_ (.lst ds'))))
 | some (.rt d)=>a_ (.rt d)
 | none=>ck) else ck
section
variable {X:Cx} {i:Nat} {sts:List GT} {f:iZ} {g:FnA} {es:List C_} {pos lp:Pos}
theorem v4 {x:Str} {pos':Pos} (hN:X.N.Nodup) (hi:X.N[i]?=a_ x) (hx:Loc X.env.scope x) (hg:FA X es g) (hr:FOs X i sts f) (hs:G7 (.List es lp) (a_ (.Name x pos')) pos.line X.env=pure f_:=by kernel_rfl)
 (hf:X.fn x=e_∨X.env.scope.names.lookup x=a_ .local:=by first | exact .inl rfl | exact .inr rfl | assumption):FSs X (.Assign [.Name x pos'] (.List es lp) pos :: sts) (xH i g f):=⟨fun pins s σ H D I ⟨ρ,E,o⟩=>by
 refine jE (o5 (i:=i) hN hi hx (pp hg.h) hs hf) hr.h pins s σ H D I ⟨ρ,E,?_⟩
 unfold xH at o
 match hgr:g ρ with
 | none=>rw [hgr] at o; exact o.elim
 | some (.exc _)=>rw [hgr] at o; exact o
 | some (.ok ds) =>
  rw [hgr] at o
  intro vs H1 e1 rs
  have o2:OutS X H (if ds.length≤100000 then (match f (ρ.set i ck) ds with
   | some (.nx ρ' ds')=>a_ (.nx (ρ'.set i (a_ (.lst ds'))))
   | some (.rt d)=>a_ (.rt d)
   | none=>ck) else ck) D:=o
  by_cases hl:ds.length≤100000
  · rw [if_pos hl] at o2
    refine ⟨by rw [rs.length]; exact bG hl,fun p hp=>?_⟩
    have hil:i < σ.length:=by rw [I.len]; exact (E_.mp hi).1
    refine ⟨H1,p,vs,ρ.set i ck,ds,rfl,hp,F7 hil,?_,rs,?_⟩
    · have E1:=(E.mono e1).fgt1 i
      refine ⟨by rw [GU]; exact E1.len,fun j d hj=>?_⟩
      by_cases hij:i=j
      · subst hij
        by_cases hl2:i < ρ.length
        · rw [F7 hl2] at hj; cases hj
        · rw [GW (by rw [GU]; omega)] at hj; cases hj
      · obtain ⟨v,q1,q2⟩:=E1.at' j d hj
        exact ⟨v,by rw [Gf hij]; exact q1,q2⟩
    · match hfr:f (ρ.set i ck) ds with
      | none=>rw [hfr] at o2; exact o2.elim
      | some (.rt d)=>rw [hfr] at o2; exact fun v H' e' r'=>o2 v H' (e1.trans e') r'
      | some (.nx ρ' ds') =>
       rw [hfr] at o2
       exact fun σ' H' xs' e' ha' hi' E' r'=>o2 σ' _ ((e1.trans e').trans (eM ha')) (iD ha' hi' E' r')
  · rw [if_neg hl] at o2
    exact o2.elim⟩
end
def kL (j:Nat) (js:List Nat) (body:iZ):List Dv→Ev→List Dv→Option Fo
 | [],ρ,xs=>a_ (.nx (fgt js ρ) xs)
 | d :: ds,ρ,xs=>match body ((fgt js ρ).set j (a_ d)) xs with
  | some (.nx ρ' xs')=>kL j js body ds ρ' xs'
  | o=>o
def v6 (j:Nat) (js:List Nat) (src:FnA) (body:iZ):iZ:=fun ρ xs=>xE (src ρ) fun ds=>if imms ds=e_ then kL j js body ds ρ xs else ck
theorem jS:∀ {ds:List Dv} {n:Nat} {d:Dv},imms ds=e_→ds[n]?=a_ d→imm d=e_
 | [],_,_,_,h=>by simp at h
 | e :: ds,0,d,i,h=>by
  have i':imm e=e_∧imms ds=e_:=by simpa [imms] using i
  cases (show a_ e=a_ d from h)
  exact i'.1
 | e :: ds,n + 1,d,i,h=>by
  have i':imm e=e_∧imms ds=e_:=by simpa [imms] using i
  exact jS i'.2 (show ds[n]?=a_ d from h)
theorem sQ {K:c_} {H:Hp} {a:i_} {xs:List V} {d:Dv} {v:V} (i:imm d=e_) (r:Rep K (upd H a (.lst xs)) d v):Rep K H d v :=
 Rep.tups (fun b ys q=>by
  by_cases hb:b=a
  · rw [hb,ao] at q; cases q
  · rw [au hb] at q; exact q) d v i r
theorem zE {X:Cx} {i:Nat} {tg iter:C_} {body:List GT} {pos:Pos} {src:FnA} {fb:iZ} (hex:X.ex=[]) (j:Nat) (js:List Nat) (hij:i≠j) (hp:Lv (x_ X.prog X.w) X.A X.env X.xe) (hc:X.calm=e_) (hi:FI X tg iter src) (hg:PG X tg (rR j)) (hb:FOs X i body fb)
 (hs:∀ x,FR iter X.env x=pure x:=by intro _; kernel_rfl):FO1 X i (.For tg iter body [] pos) (v6 j js src fb):=⟨fun pins s σ Hf D I ⟨H,a,xs,ρ,ds,e1,ha,hia,E,r,o⟩=>by
 refine uf hp hc (vX hex hi.h) hg hb.h hs pins s σ Hf D I ⟨H,a,xs,e1,ha,ρ,E,?_⟩
 unfold v6 at o
 match hf:src ρ with
 | none=>rw [hf] at o; exact o.elim
 | some (.exc _)=>rw [hf] at o; exact o.elim
 | some (.ok us) =>
  rw [hf] at o
  have o0:OutW X i a H (if imms us=e_ then kL j js fb us ρ ds else ck) D:=o
  by_cases him:imms us=e_
  · rw [if_pos him] at o0
    intro J H1 e1 wk ha1
    have o1:=OutW.mono e1 o0
    refine ⟨fun n m σ' Hf'=>m=us.length - n∧n≤us.length∧∃ H' xs' ρ' ds',Hf'=upd H' a (.lst xs')∧H' a=ck∧Same H1 H'∧σ'[i]?=a_ (a_ (.ref a))∧Envs X.K H' σ' ρ'∧Reps X.K H' ds' xs'∧OutW X i a H' (kL j js fb (us.drop n) ρ' ds') D,
     ⟨us.length,by simp,Gd _,H1,xs,ρ,ds,rfl,ha1,.refl H1,hia,E.mono e1,Reps.mono e1 _ _ r,by simpa using o1⟩,?_⟩
    rintro n m σ' Hf' ⟨rfl,hn,H',xs',ρ',ds',rfl,ha',e2,hia',E',r',o'⟩
    have e2f:Same H1 (upd H' a (.lst xs')):=e2.trans (eM ha')
    by_cases hlt:n < us.length
    · refine .inr ⟨wk.go n _ e2f hlt,fun σ2 Hf2=>∃ H2 xs2 ρ2 ds2,Hf2=upd H2 a (.lst xs2)∧H2 a=ck∧Same H1 H2∧σ2[i]?=a_ (a_ (.ref a))∧Envs X.K H2 σ2 ρ2∧Reps X.K H2 ds2 xs2∧OutW X i a H2 (kL j js fb (us.drop (n + 1)) ρ2 ds2) D,
       fun σ2 Hf2 q=>⟨us.length - (n + 1),by omega,rfl,hlt,q⟩,fun x H2 y=>?_⟩
      obtain ⟨rfl,d,hd,rd⟩:=wk.yld n _ x H2 e2f hlt y
      have rd':=sQ (jS him hd) rd
      rw [iA hd] at o'
      show tO X i fb _ _ _
      refine ⟨H',a,xs',(fgt js ρ').set j (a_ d),ds',rfl,ha',by rw [Gf (IX hij)]; exact hia',(Envs.fgt js E').set rd',r',?_⟩
      unfold kL at o'
      match hb':fb ((fgt js ρ').set j (a_ d)) ds' with
      | none=>rw [hb'] at o'; exact o'
      | some (.rt r)=>rw [hb'] at o'; exact o'
      | some (.nx ρ2 ds2)=>rw [hb'] at o'; exact fun σ2 H3 xs3 e3 h3 hi3 E3 r3=>⟨H3,xs3,ρ2,ds2,rfl,h3,e2.trans e3,hi3,E3,r3,OutW.mono e3 o'⟩
    · have hn':n=us.length:=by omega
      subst hn'
      rw [KD] at o'
      exact .inl ⟨wk.stop _ e2f,o' σ' H' xs' (.refl H') ha' hia' (Envs.fgt js E') r'⟩
  · rw [if_neg him] at o0
    exact o0.elim⟩
end FD
namespace FD
open PySem PySem.Spec PyProof.Rows L2 PySem.W
def cM:Dv→Bool
 | .bl _=>e_
 | .int _=>e_
 | _=>f_
theorem v7 (K:c_) (d:Dv):HE K (.type (tyD d)) (.type "int")=a_ (cM d):=by cases d <;> kernel_rfl
theorem zF:Go (b_ "int")=a_ (.type "int"):=by kernel_rfl
def xI:List Dv→Option (Rs Dv)
 | [.int i,.int j]=>a_ (.ok (.int (if j > i then j else i)))
 | _=>ck
section
variable {X:Cx} {p pos:Pos} {e:C_} {es:List C_} {ga:FnA}
theorem zG (hc:X.calm=e_) (hg:Gl X "max") (hm:X.mg "max"=ck) (ha:FA X (e :: es) ga) (he:h_ (e :: es) X.env=(f_,eval e X.env) :: h_ es X.env:=by kernel_rfl) (hpl:(FP pos (h_ es X.env)).any (·.1)=f_:=by kernel_rfl):FE X (.Call (.Name "max" p) (e :: es) [] pos) (fB1 xI ga) :=
 cA (fg (ph hc) hg hm PyProof.Rows.boot_max ha.h (by decide) (by decide) he hpl) fun σ H Q ρ E o=>⟨ρ,E,OutA.bind o fun ds vs H1 e1 rs o1=>by
  unfold xI at o1
  split at o1
  · rename_i i j
    obtain ⟨v,v2,rfl,r,r2⟩:=yX rs
    cases (show v=.int i from r)
    cases (show v2=.int j from r2)
    exact ⟨i,j,rfl,o1 _ H1 (.refl H1) rfl⟩
  · exact o1.elim⟩
end
def leX:Dv→Dv→Option (Rs Dv)
 | .int i,.int j=>a_ (.ok (.bl (t_ (i≤j))))
 | .str x,.str y=>a_ (.ok (.bl (!t_ (y.cps.toList < x.cps.toList))))
 | _,_=>ck
def El:R2:=fun x y H Q=>rI0 (fun i j=>.bl (t_ (i≤j))) x y H Q∨∃ i j,x=.str i∧y=.str j∧Q (.bl (!t_ (j.cps.toList < i.cps.toList))) H
section
variable {X:Cx}
theorem qb:OpR X (F9 .LtE) (fun x y H Q=>∃ i j,x=.str i∧y=.str j∧Q (.bl (!t_ (j.cps.toList < i.cps.toList))) H):=by
 intro pins s σ H x y v u Q I rx ry h
 obtain ⟨i,j,rfl,rfl,q⟩:=h
 obtain ⟨t,rfl⟩:=rx
 obtain ⟨t',rfl⟩:=ry
 exact PySem.P.le_str ⟨.bl _,H,I,rfl,q⟩
theorem zH:OpR X (F9 .LtE) El:=op_le.or qb
theorem zI:GOp X El leX:=by
 intro dx dy x y H Q rx ry o
 cases dx <;> cases dy <;> try exact (show False from o).elim
 · rename_i i j
   exact .inl ⟨i,j,rx,ry,o _ H (.refl H) rfl⟩
 · rename_i i j
   exact .inr ⟨i,j,rx,ry,o _ H (.refl H) rfl⟩
end
def CP (K:c_) (S:List Nat) (Cs:List i_) (CJ:i_):Bool:=excIn K CJ bmV "ValueError.__new__" && S.all fun c=>excIn K (Cs.getD c 0) bmV "ValueError.__new__" && xiB K (Cs.getD c 0) && mroIn K (Cs.getD c 0) (.ref CJ) == a_ e_ && mroIn K (Cs.getD c 0) (.ref (Cs.getD c 0)) == a_ e_ &&
 kitOne K (.ref (Cs.getD c 0)) (.type "ValueError") == a_ e_ && S.all fun d=>kitOne K (.ref (Cs.getD c 0)) (.ref (Cs.getD d 0)) == a_ (c == d)
structure XAllS (K:c_) (S:List Nat) (cls:Nat→i_) (CJ:i_):Prop where
 at_:∀ c∈S,nsIn K rl (xnm c)=a_ (a_ (.ref (cls c)))∧excIn K (cls c) bmV "ValueError.__new__"=e_∧XI K (cls c)∧mroIn K (cls c) (.ref CJ)=a_ e_∧mroIn K (cls c) (.ref (cls c))=a_ e_∧kitOne K (.ref (cls c)) (.type "ValueError")=a_ e_∧∀ d∈S,kitOne K (.ref (cls c)) (.ref (cls d))=a_ (c == d)
 exJ:excIn K CJ bmV "ValueError.__new__"=e_
theorem sS {K:c_} {S:List Nat} {Cs:List i_} {CJ:i_} (hn:∀ c∈S,nsIn K rl (xnm c)=a_ (a_ (.ref (Cs.getD c 0)))) (h:CP K S Cs CJ=e_):XAllS K S (fun c=>Cs.getD c 0) CJ:=by
 unfold CP at h
 rw [l_] at h
 refine ⟨fun c hc=>?_,h.1⟩
 have h1:=Gy.mp h.2 c hc
 simp only [l_,beq_iff_eq] at h1
 exact ⟨hn c hc,h1.1.1.1.1.1,CH h1.1.1.1.1.2,h1.1.1.1.2,h1.1.1.2,h1.1.2,fun d hd=>by
  have h2:=Gy.mp h1.2 d hd
  simpa using h2⟩
section
variable {K:c_} {S:List Nat} {cls:Nat→i_} {CJ:i_} (x:XAllS K S cls CJ)
include x
theorem XAllS.xc (c:Nat) (h:c∈S):XC K c (cls c):=⟨(x.at_ c h).1,(x.at_ c h).2.1⟩
theorem XAllS.same {c:Nat} {C:i_} (h:c∈S) (q:nsIn K rl (xnm c)=a_ (a_ (.ref C))):C=cls c:=by
 have z:=(x.at_ c h).1
 rw [q] at z
 cases z
 rfl
theorem XAllS.xtO (d:Nat) (hd:d∈S):XT K (fun c=>if S.contains c then a_ (c == d) else ck) (.ref (cls d)):=fun c b hb C q=>by
 dsimp only at hb
 split at hb
 · rename_i h
   have h':c∈S:=by simpa using h
   cases hb
   rw [x.same h' q]
   exact ⟨(x.at_ c h').2.2.1,(x.at_ c h').2.2.2.2.2.2 d hd⟩
 · cases hb
theorem XAllS.xtV:XT K (fun c=>if S.contains c then a_ e_ else ck) (.type "ValueError"):=fun c b hb C q=>by
 dsimp only at hb
 split at hb
 · rename_i h
   have h':c∈S:=by simpa using h
   cases hb
   rw [x.same h' q]
   exact ⟨(x.at_ c h').2.2.1,(x.at_ c h').2.2.2.2.2.1⟩
 · cases hb
end
section
variable {X:Cx} {ex hx:C_} {f g:FnE} {J:Str} {CJ:i_} {np rp rp2 hpos pos:Pos}
end
end FD
namespace ST
open PySem PySem.SetTable
def stp (m i:Nat):Nat:=(i * 5 + 1) % (m + 1)
def it (m:Nat):Nat→Nat→Nat
 | 0,i=>i
 | k + 1,i=>it m k (stp m i)
def sU (m:Nat):Bool:=(pi (m + 1)).all fun i=>(pi (m + 1)).all fun j=>(pi (m + 1)).any fun k=>it m k i == j
theorem EU:sU 7=e_:=by decide +kernel
theorem CQ:sU 31=e_:=by decide +kernel
theorem zJ {m:Nat} (h:sU m=e_) {i j:Nat} (hi:i≤m) (hj:j≤m):∃ k,k≤m∧it m k i=j:=by
 unfold sU at h
 have h1:=Gy.mp h i (Gr.mpr (by omega))
 have h2:=Gy.mp h1 j (Gr.mpr (by omega))
 obtain ⟨k,hk,e⟩:=KG.mp h2
 exact ⟨k,by have:=Gr.mp hk; omega,by simpa using e⟩
def lp (m:Nat):Nat→Nat×Nat→Nat×Nat
 | 0,x=>x
 | r + 1,x=>lp m r (leap m x.1 x.2)
theorem qd (m:Nat):∀ (a b:Nat) (x:Nat×Nat),lp m (a + b) x=lp m b (lp m a x)
 | 0,b,x=>by rw [Ik]; rfl
 | a + 1,b,x=>by
  rw [Nat.succ_add]
  show lp m (a + b) (leap m x.1 x.2)=lp m b (lp m a (leap m x.1 x.2))
  exact qd m a b _
theorem v8 (m:Nat):∀ (r:Nat) (x:Nat×Nat),x.1≤m→(lp m r x).1≤m
 | 0,x,h=>h
 | r + 1,x,h=>v8 m r _ (by
  show (x.1 * 5 + 1 + x.2 / 32) % (m + 1)≤m
  exact Hq (JS _ (IY m)))
theorem zK (m:Nat):∀ (r:Nat) (x:Nat×Nat),(lp m r x).2=x.2 / 32 ^ r
 | 0,x=>by simp [lp]
 | r + 1,x=>by
  show (lp m r (leap m x.1 x.2)).2=_
  rw [zK m r]
  show x.2 / 32 / 32 ^ r=_
  rw [Nat.div_div_eq_div_mul,Nat.pow_succ,Mf]
theorem qe (m:Nat):∀ (r:Nat) (i:Nat),(lp m r (i,0)).1=it m r i
 | 0,i=>rfl
 | r + 1,i=>by
  show (lp m r (leap m i 0)).1=it m r (stp m i)
  have e:leap m i 0=(stp m i,0):=by unfold leap stp; simp
  rw [e]
  exact qe m r _
theorem qf {m:Nat} (c:sU m=e_) {i pt j:Nat} (hi:i≤m) (hp:pt < 2 ^ 64) (hj:j≤m):∃ r,r≤13 + m∧(lp m r (i,pt)).1=j:=by
 have h0:(lp m 13 (i,pt)).2=0:=by
  rw [zK]
  exact Nat.div_eq_of_lt (by
   show pt < 32 ^ 13; have:(32:Nat) ^ 13=2 ^ 65:=by decide
   omega)
 obtain ⟨k,hk,e⟩:=zJ c (v8 m 13 (i,pt) hi) hj
 refine ⟨13 + k,by omega,?_⟩
 rw [qd]
 have e2:lp m 13 (i,pt)=((lp m 13 (i,pt)).1,0):=by rw [← h0]
 rw [e2,qe]
 exact e
def advN (t:SetTable):Nat→Probe→Probe
 | 0,p=>p
 | n + 1,p=>advN t n (t.advance p)
theorem gu (t:SetTable):∀ (a b:Nat) (p:Probe),advN t (a + b) p=advN t b (advN t a p)
 | 0,b,p=>by rw [Ik]; rfl
 | a + 1,b,p=>by
  rw [Nat.succ_add]
  exact gu t a b _
structure Vp (t:SetTable) (p:Probe):Prop where
 i:p.i≤t.mask
 pt:p.perturb < 2 ^ 64
 more:p.more≤9
 dm:p.dummy=ck
theorem kM (m i:Nat):MR m i - i≤9:=by unfold MR; split <;> omega
def kN (t:SetTable) (p:Probe):Probe:={ p with j:=(leap t.mask p.i p.perturb).1,more:=MR t.mask (leap t.mask p.i p.perturb).1 - (leap t.mask p.i p.perturb).1,i:=(leap t.mask p.i p.perturb).1,perturb:=(leap t.mask p.i p.perturb).2 }
theorem na (t:SetTable) (p:Probe) (h:p.more=0):t.advance p=kN t p:=by
 unfold Mu kN
 rw [if_neg (by omega)]
theorem qg (t:SetTable) (p:Probe) (h:0 < p.more):t.advance p={ p with j:=p.j + 1,more:=p.more - 1 }:=by
 unfold Mu
 rw [if_pos h]
theorem lS (t:SetTable):∀ (k:Nat) (p:Probe),p.more=k→advN t (k + 1) p=kN t p
 | 0,p,h=>na t p h
 | k + 1,p,h=>by
  show advN t (k + 1) (t.advance p)=_
  rw [qg t p (by omega),lS t k _ (by show p.more - 1=k; omega)]
  rfl
theorem qh (m i pt:Nat) (h:pt < 2 ^ 64):(leap m i pt).2 < 2 ^ 64:=Nat.lt_of_le_of_lt (Nat.div_le_self _ _) h
theorem Vp.leap {t:SetTable} {p:Probe} (v:Vp t p):Vp t (kN t p):=⟨by
 show (p.i * 5 + 1 + p.perturb / 32) % (t.mask + 1)≤t.mask
 exact Hq (JS _ (IY t.mask)),(show (LM t.mask p.i p.perturb).2 < 2 ^ 64 from qh _ _ _ v.pt),(show MR t.mask (LM t.mask p.i p.perturb).1 - (LM t.mask p.i p.perturb).1≤9 from kM _ _),v.dm⟩
theorem Vp.adv {t:SetTable} {p:Probe} (v:Vp t p):Vp t (t.advance p):=by
 by_cases h:0 < p.more
 · rw [qg t p h]; exact ⟨v.i,v.pt,by show p.more - 1≤9; have:=v.more; omega,v.dm⟩
 · rw [na t p (by omega)]; exact v.leap
theorem Vp.advN {t:SetTable}:∀ (n:Nat) {p:Probe},Vp t p→Vp t (advN t n p)
 | 0,p,v=>v
 | n + 1,p,v=>Vp.advN n v.adv
theorem nb (t:SetTable):∀ (r:Nat) (p:Probe),Vp t p→∃ n,n≤10 * r∧(advN t n p).i=(lp t.mask r (p.i,p.perturb)).1∧(r≠0→(advN t n p).j=(advN t n p).i)
 | 0,p,v=>⟨0,by omega,rfl,fun h=>absurd rfl h⟩
 | r + 1,p,v=>by
  obtain ⟨n,h1,h2,h3⟩:=nb t r (kN t p) v.leap
  refine ⟨p.more + 1 + n,by have:=v.more; omega,?_,fun _=>?_⟩
  · rw [gu,lS t p.more p rfl,h2]; rfl
  · rw [gu,lS t p.more p rfl]
    by_cases hr:r=0
    · subst hr
      have hn:n=0:=by omega
      subst hn
      rfl
    · exact h3 hr
structure Tb (t:SetTable) (n:Nat):Prop where
 size:t.place.size=n
 dm:t.dummies=#[]
 cyc:sU t.mask=e_
 room:n≤t.mask
theorem qi (j:Nat):has #[] j=f_:=by unfold has; simp
theorem jp {t:SetTable} {n:Nat} (T:Tb t n) (j:Nat):t.slot j=.empty∨∃ i,t.slot j=.live i∧t.place[i]?=a_ j:=by
 unfold SetTable.slot
 dsimp only
 split
 · rename_i h
   exact .inr ⟨_,rfl,by simpa using h⟩
 · rw [T.dm,qi]
   exact .inl rfl
theorem qj:∀ (m:Nat) (l:List Nat),l.length≤m→∃ j,j≤m∧j ∉ l
 | 0,l,h=>⟨0,m_ _,by
  have:l=[]:=HH.mp (by omega)
  simp [this]⟩
 | m + 1,l,h=>by
  by_cases hm:(m + 1)∈l
  · obtain ⟨j,hj,hn⟩:=qj m (l.erase (m + 1)) (by rw [List.length_erase_of_mem hm]; omega)
    refine ⟨j,by omega,fun hl=>hn ?_⟩
    exact (List.mem_erase_of_ne (by omega)).mpr hl
  · exact ⟨m + 1,m_ _,hm⟩
theorem sV {t:SetTable} {n:Nat} (T:Tb t n):∃ j,j≤t.mask∧t.slot j=.empty:=by
 obtain ⟨j,hj,hn⟩:=qj t.mask t.place.toList (by simp [T.size,T.room])
 refine ⟨j,hj,?_⟩
 rcases jp T j with h | ⟨i,h,e⟩
 · exact h
 · exact absurd (Ht.mpr (Array.mem_of_getElem? e)) hn
theorem CS {t:SetTable} {n:Nat} (T:Tb t n) {p:Probe} (v:Vp t p):∃ N,N < 10 * LL t.mask∧t.slot (advN t N p).j=.empty:=by
 obtain ⟨j,hj,he⟩:=sV T
 obtain ⟨r,hr,e⟩:=qf T.cyc (v8 t.mask 1 (p.i,p.perturb) v.i) (by
  show (leap t.mask p.i p.perturb).2 < 2 ^ 64
  exact qh _ _ _ v.pt) hj (pt:=(lp t.mask 1 (p.i,p.perturb)).2)
 obtain ⟨N,h1,h2,h3⟩:=nb t (1 + r) p v
 refine ⟨N,by unfold LL; omega,?_⟩
 rw [h3 (by omega),h2,qd]
 rw [show lp t.mask 1 (p.i,p.perturb)=((lp t.mask 1 (p.i,p.perturb)).1,(lp t.mask 1 (p.i,p.perturb)).2) from rfl,e]
 exact he
theorem first {P:Nat→Prop} [DecidablePred P]:∀ (b:Nat),(∃ n,n < b∧P n)→∃ n,n < b∧P n∧∀ k,k < n→¬ P k
 | 0,⟨n,h,_⟩=>absurd h (IC _)
 | b + 1,⟨n,h,hp⟩=>by
  by_cases q:∃ n,n < b∧P n
  · obtain ⟨n,h1,h2,h3⟩:=first b q
    exact ⟨n,by omega,h2,h3⟩
  · have hn:n=b:=by
     have:¬ n < b:=fun z=>q ⟨n,z,hp⟩
     omega
    subst hn
    exact ⟨n,by omega,hp,fun k hk z=>q ⟨k,hk,z⟩⟩
theorem zL {t:SetTable} {n:Nat} (T:Tb t n) {p:Probe} (v:Vp t p):∃ N,N < 10 * LL t.mask∧t.slot (advN t N p).j=.empty∧∀ k,k < N→t.slot (advN t k p).j≠.empty :=
 first (P:=fun n=>t.slot (advN t n p).j=.empty) _ (CS T v)
theorem uF {t:SetTable} {n:Nat} (T:Tb t n) (hashAt:Nat→Int) (h:Int):∀ (N fuel:Nat) (p:Probe),Vp t p→N < fuel→t.slot (advN t N p).j=.empty→(∀ k,k < N→t.slot (advN t k p).j≠.empty) →
 Kq t hashAt h fuel p=a_ (.empty (advN t N p).j ck)∨∃ m i,m < N∧t.slot (advN t m p).j=.live i∧t.place[i]?=a_ (advN t m p).j∧hashAt i=h∧Kq t hashAt h fuel p=a_ (.candidate (advN t m p).j i (advN t (m + 1) p))
 | N,0,p,v,hf,_,_=>absurd hf (IC _)
 | 0,fuel + 1,p,v,hf,he,_=>by
  refine .inl ?_
  unfold Kq
  rw [show t.slot p.j=.empty from he]
  show a_ (Met.empty p.j p.dummy)=_
  rw [v.dm]
  rfl
 | N + 1,fuel + 1,p,v,hf,he,hn=>by
  rcases jp T p.j with h0 | ⟨i,h1,h2⟩
  · exact absurd h0 (hn 0 (by omega))
  · by_cases hh:hashAt i=h
    · refine .inr ⟨0,i,by omega,h1,h2,hh,?_⟩
      unfold Kq
      rw [h1]
      dsimp only
      rw [if_pos (by simpa using hh)]
      rfl
    · have hg:Kq t hashAt h (fuel + 1) p=Kq t hashAt h fuel (t.advance p):=by
       conv=>lhs; unfold Kq
       rw [h1]
       dsimp only
       rw [if_neg (by simpa using hh)]
      rcases uF T hashAt h N fuel (t.advance p) v.adv (by omega) he (fun k hk=>hn (k + 1) (by omega)) with q | ⟨m,i',q1,q2,q3,q4,q5⟩
      · exact .inl (by rw [hg,q]; rfl)
      · exact .inr ⟨m + 1,i',by omega,q2,q3,q4,by rw [hg,q5]; rfl⟩
theorem qk {t:SetTable} (h:Int):Vp t (t.probeStart h):=⟨by
 show bits h % (t.mask + 1)≤t.mask
 exact Hq (JS _ (IY t.mask)),by
 show bits h < 2 ^ 64
 unfold bits
 have h1:=Hm h (show (2 ^ 64:Int)≠0 by decide)
 have h2:=GH h (show (0:Int) < 2 ^ 64 by decide)
 omega,kM _ _,rfl⟩
theorem kO {m:Nat} {owner:Array (Option Nat)}:∀ (fuel i pt:Nat),i≤m→(∃ r,r < fuel∧(owner.getD (lp m r (i,pt)).1 (a_ 0)).isNone=e_)→∃ j,Jh m owner fuel i pt=a_ j∧(owner.getD j (a_ 0)).isNone=e_
 | 0,i,pt,_,⟨r,h,_⟩=>absurd h (IC _)
 | fuel + 1,i,pt,hi,⟨r,h,e⟩=>by
  unfold Jh
  split
  · rename_i k hk
    exact ⟨i + k,rfl,by simpa using List.find?_some hk⟩
  · rename_i hk
    cases r with
    | zero =>
     have hm:0∈pi (MR m i + 1 - i):=Gr.mpr (by unfold MR; split <;> omega)
     have:=List.find?_eq_none.mp hk 0 hm
     exact absurd (show (owner.getD (i + 0) (a_ 0)).isNone=e_ from e) this
    | succ r =>
     exact kO fuel _ _ (by
      show (i * 5 + 1 + pt / 32) % (m + 1)≤m
      exact Hq (JS _ (IY m))) ⟨r,by omega,e⟩
theorem uG:∀ (l:List (Option Nat)) (j k:Nat),l[j]?=a_ ck→((l.set j (a_ k)).filterMap id).Perm (k :: l.filterMap id)
 | [],j,k,h=>by simp at h
 | x :: l,0,k,h=>by
  have:x=ck:=by simpa using h
  subst this
  simp
 | x :: l,j + 1,k,h=>by
  have ih:=uG l j k (by simpa using h)
  cases x with
  | none=>simpa using ih
  | some y =>
   show List.Perm (y :: (l.set j (a_ k)).filterMap id) (k :: y :: l.filterMap id)
   exact (ih.cons y).trans (MU ..)
theorem ql:∀ (l:List (Option Nat)),(l.filterMap id).length < l.length→∃ j,j < l.length∧l[j]?=a_ ck
 | [],h=>by simp at h
 | none :: l,h=>⟨0,by simp,rfl⟩
 | some y :: l,h=>by
  obtain ⟨j,h1,h2⟩:=ql l (by simpa using h)
  exact ⟨j + 1,by simpa using h1,by simpa using h2⟩
def v9 (m:Nat) (acc:Option (Array (Option Nat)×Nat)) (h:Int):Option (Array (Option Nat)×Nat):=do
 let (owner,k) ← acc
 let j ← Jh m owner (LL m) (bits h % (m + 1)) (bits h)
 pure (owner.setIfInBounds j (a_ k),k + 1)
theorem wa (h:Int):bits h < 2 ^ 64:=by
 unfold bits
 have h1:=Hm h (show (2 ^ 64:Int)≠0 by decide)
 have h2:=GH h (show (0:Int) < 2 ^ 64 by decide)
 omega
theorem getD_none {owner:Array (Option Nat)} {j:Nat} (h:(owner.getD j (a_ 0)).isNone=e_):j < owner.size∧owner.toList[j]?=a_ ck:=by
 rw [Ic] at h
 cases q:owner[j]? with
 | none=>rw [q] at h; simp at h
 | some x =>
  rw [q] at h
  have hx:x=ck:=by simpa using h
  subst hx
  refine ⟨(Gu.mp q).1,by rw [Jc]; exact q⟩
theorem qm {m:Nat} (c:sU m=e_):∀ (hs:List Int) (owner:Array (Option Nat)) (k:Nat),owner.size=m + 1→(owner.toList.filterMap id).Perm (pi k)→k + hs.length≤m →
 ∃ o2,hs.foldl (v9 m) (a_ (owner,k))=a_ (o2,k + hs.length)∧o2.size=m + 1∧(o2.toList.filterMap id).Perm (pi (k + hs.length))
 | [],owner,k,h1,h2,h3=>⟨owner,rfl,h1,h2⟩
 | h :: hs,owner,k,h1,h2,h3=>by
  have hk:k + (hs.length + 1)≤m:=by simpa using h3
  obtain ⟨j0,a1,a2⟩:=ql owner.toList (by rw [h2.length_eq,IZ]; simp only [Gi,h1]; omega)
  have hj0:j0≤m:=by simp only [Gi,h1] at a1; omega
  obtain ⟨r,b1,b2⟩:=qf c (i:=bits h % (m + 1)) (pt:=bits h) (Hq (JS _ (IY m))) (wa h) hj0
  obtain ⟨j,f1,f2⟩:=kO (m:=m) (owner:=owner) (LL m) (bits h % (m + 1)) (bits h) (Hq (JS _ (IY m))) ⟨r,by unfold LL; omega,by
   rw [b2,Ic]
   rw [Jc] at a2
   rw [a2]; rfl⟩
  obtain ⟨g1,g2⟩:=getD_none f2
  have e:v9 m (a_ (owner,k)) h=a_ (owner.setIfInBounds j (a_ k),k + 1):=by
   show (Jh m owner (LL m) (bits h % (m + 1)) (bits h)).bind (fun j=>a_ (owner.setIfInBounds j (a_ k),k + 1))=_
   rw [f1]; rfl
  rw [K3,e]
  obtain ⟨o2,c1,c2,c3⟩:=qm c hs (owner.setIfInBounds j (a_ k)) (k + 1) (by rw [Array.size_setIfInBounds]; exact h1) (by
   rw [Array.toList_setIfInBounds]
   refine (uG _ _ _ g2).trans ((h2.cons k).trans ?_)
   rw [MJ]
   exact (JU k (pi k)).symm) (by omega)
  refine ⟨o2,?_,c2,?_⟩
  · rw [c1]; simp only [Hc]; congr 2; omega
  · simp only [Hc]; rw [show k + (hs.length + 1)=k + 1 + hs.length by omega]; exact c3
theorem lT {m:Nat} (c:sU m=e_) (hs:Array Int) (hl:hs.size≤m):∃ o2,layClean m hs=a_ o2∧o2.size=m + 1∧(o2.toList.filterMap id).Perm (pi hs.size):=by
 obtain ⟨o2,c1,c2,c3⟩:=qm c hs.toList (K5 (m + 1) ck) 0 (by simp) (by simp [List.filterMap_replicate]) (by simpa using hl)
 refine ⟨o2,?_,c2,by simpa using c3⟩
 unfold layClean
 rw [← Array.foldl_toList]
 have e:(LW (fun acc h=>do
  let (owner,k) ← acc
  let j ← Jh m owner (LL m) (bits h % (m + 1)) (bits h)
  pure (owner.setIfInBounds j (a_ k),k + 1)) (a_ (K5 (m + 1) ck,0)) hs.toList:Option (Array (Option Nat)×Nat))=hs.toList.foldl (v9 m) (a_ (K5 (m + 1) ck,0)):=rfl
 rw [e,c1]
 rfl
theorem ng:∀ (l:List (Option Nat)) (base:Nat),((pi l.length).filterMap fun j=>(l.getD j ck).map (fun x=>(base + j,x))).map (·.2)=l.filterMap id
 | [],base=>rfl
 | x :: l,base=>by
  rw [Hc,KY,HB,IE]
  have ih:=ng l (base + 1)
  have e:(pi l.length).filterMap ((fun j=>((x :: l).getD j ck).map (fun x=>(base + j,x))) ∘ Nat.succ)=(pi l.length).filterMap fun j=>(l.getD j ck).map (fun x=>(base + 1 + j,x)):=by
   congr 1
   funext j
   show ((x :: l).getD (j + 1) ck).map _=_
   simp only [List.getD_cons_succ]
   rw [show base + (j + 1)=base + 1 + j by omega]
  rw [e]
  cases x with
  | none=>simpa using ih
  | some y =>
   simp only [List.getD_cons_zero,HU,FV]
   rw [ih]
   rfl
theorem wb {m finger moves:Nat} {led plain:Bool} (c:sU m=e_) (hs:Array Int) (hl:hs.size≤m):∃ t order,laid m finger moves led plain hs=a_ (t,order)∧t.mask=m∧t.moves=moves∧t.led=led∧t.plain=plain∧Tb t hs.size∧order.toList.Perm (pi hs.size):=by
 obtain ⟨o2,c1,c2,c3⟩:=lT c hs hl
 have e:=ng o2.toList 0
 have hlen:((pi (m + 1)).filterMap fun j=>(o2.getD j ck).map (j,·))=((pi o2.toList.length).filterMap fun j=>(o2.toList.getD j ck).map (fun x=>(0 + j,x))):=by
  rw [Gi,c2]
  congr 1
  funext j
  rw [Ik,Ic,Ih,Jc]
 refine ⟨_,_,by unfold laid; rw [c1]; rfl,rfl,rfl,rfl,rfl,⟨?_,rfl,c,hl⟩,?_⟩
 · simp only [uk,Gb]
   rw [hlen]
   have:=congrArg List.length e
   rw [Gb] at this
   rw [this,c3.length_eq,IZ]
 · rw [Jw,hlen,e]
   exact c3
theorem gv {α:Type} (xs:Array α) (p:Nat) (x:α) (h:p≤xs.size):(insertAt xs p x).size=xs.size + 1:=by
 unfold insertAt
 simp only [Ja,Array.size_push,Array.size_extract]
 omega
theorem nh (xs:Array Nat) (j:Nat):below xs j≤xs.size:=by
 unfold below
 have:∀ (fuel lo hi:Nat),lo≤hi→hi≤xs.size→M4 xs j fuel lo hi≤xs.size:=by
  intro fuel
  induction fuel with
  | zero=>intro lo hi h1 h2; unfold M4; omega
  | succ fuel ih =>
   intro lo hi h1 h2
   unfold M4
   split
   · rename_i hlt
     dsimp only
     split
     · exact ih _ _ (by omega) h2
     · exact ih _ _ (by omega) (by omega)
   · omega
 exact this _ _ _ (Gd _) (m_ _)
theorem zM {t:SetTable} {n:Nat} (T:Tb t n) (h:n + 1≤t.mask) (j:Nat):Tb (t.put j).1 (n + 1)∧(t.put j).2≤n∧(t.put j).1.mask=t.mask∧(t.put j).1.led=t.led∧(t.put j).1.moves=t.moves:=by
 unfold SetTable.put
 refine ⟨⟨?_,?_,T.cyc,h⟩,?_,rfl,rfl,rfl⟩
 · show (insertAt t.place (below t.place j) j).size=n + 1
   rw [gv _ _ _ (nh _ _),T.size]
 · show (if has t.dummies j then eraseAt t.dummies (below t.dummies j) else t.dummies)=#[]
   rw [T.dm,qi]
   rfl
 · show below t.place j≤n
   rw [← T.size]
   exact nh _ _
section
variable {prog:n_} {w:y_} {A:w_} {E:d_→ge→Prop} {s:ge}
abbrev TK (prog:n_) (w:y_) (h:FF) (k:List Str) (a:i_):Prop:=IsTupleKey (strKind prog w) h k a
abbrev hsh (prog:n_) (w:y_) (k:List Str):Int:=tupleKeyHash (strKind prog w) k
theorem kP {k:List Str} {vs:List d_} (h:ItemsAre (strKind prog w) k vs):∀ v∈vs,∃ x t,v=.str x t:=by
 induction h with
 | nil=>intro v hv; simp at hv
 | @cons k' v' ks vs h1 _ ih =>
  intro v hv
  rcases FB.mp hv with rfl | hv
  · obtain ⟨t,rfl⟩:=Lx h1
    exact ⟨_,_,rfl⟩
  · exact ih v hv
theorem qo {k:List Str} {a:i_} {Q:Bool→ge→Prop} (hk:TK prog w s.heap k a) (h:Q f_ s):u_ (x_ prog w) A (ofAClassStatement 8 (.ref a)) Q E s:=by
 have hT:=hk.typeIs
 obtain ⟨o,items,n,ho,_,hd,hi⟩:=hk
 unfold ofAClassStatement
 refine g_ (Jy hT ?_)
 show u_ _ _ ((if ("tuple" == "tuple")=e_ then pure e_ else isSubtype (.type "tuple") (.type "tuple")) >>= _) _ _ s
 rw [if_pos (by decide)]
 refine g_ (j_ ?_)
 simp only [Iw,B_,if_false]
 refine g_ (wpAny_seqItems ho hd ?_)
 refine g_ ?_
 show u_ _ _ (forIn items _ _) _ _ s
 rw [← IF]
 refine Km _ (fun rest r s'=>r.1=ck∧s'=s∧∀ v∈rest,∃ x t,v=Ii x t) _ ?_ ?_ _ _ ⟨rfl,rfl,kP hi⟩
 · rintro v rest r s' ⟨hr,rfl,hall⟩
   obtain ⟨x,t,rfl⟩:=hall v p_
   refine g_ (j_ ?_)
   simp only [B_,if_false]
   exact j_ ⟨rfl,rfl,fun u hu'=>hall u (on _ hu')⟩
 · rintro ⟨r1,r2⟩ s' ⟨hr,rfl,_⟩
   simp only at hr
   subst hr
   exact j_ h
theorem zN {k:List Str} {b:i_} (hk:TK prog w s.heap k b) {l:List d_} (hl:∀ v∈l,∃ k' a,v=.ref a∧TK prog w s.heap k' a) {Q:Bool→ge→Prop} (h:Q f_ s):u_ (x_ prog w) A (searchCouldBeSeen (.ref b) l) Q E s:=by
 unfold searchCouldBeSeen
 refine g_ ?_
 refine Km _ (fun rest r s'=>r.1=ck∧s'=s∧∀ v∈rest,∃ k' a,v=A_ a∧TK prog w s.heap k' a) _ ?_ ?_ _ _ ⟨rfl,rfl,hl⟩
 · rintro v rest r s' ⟨hr,rfl,hall⟩
   obtain ⟨k',a,rfl,ha⟩:=hall v p_
   have hrest:∀ v∈rest,∃ k' a,v=A_ a∧TK prog w s'.heap k' a:=fun u hu'=>hall u (on _ hu')
   dsimp only
   split
   · exact j_ ⟨rfl,rfl,hrest⟩
   · refine g_ (K6 hk ?_)
     simp only [Iw,B_,if_false]
     refine g_ (K6 ha ?_)
     simp only [Iw,B_,if_false]
     refine g_ (qo hk ?_)
     simp only [B_,if_false]
     refine g_ (qo ha ?_)
     simp only [B_,if_false]
     exact j_ ⟨rfl,rfl,hrest⟩
 · rintro ⟨r1,r2⟩ s' ⟨hr,rfl,_⟩
   simp only at hr
   subst hr
   exact j_ h
def Ent (prog:n_) (w:y_) (h:FF) (ks:List (List Str)) (es:List (Int×d_)):Prop:=∀ e∈es,∃ k a,k∈ks∧e.2=.ref a∧TK prog w h k a
theorem jT {t:SetTable} {n:Nat} (T:Tb t n):t.fits n=e_:=by
 unfold SetTable.fits MX
 rw [T.size,T.dm]
 simp [T.room]
theorem qp {S b:i_} {o:Obj} {es:Array (Int×d_)} {ep:Nat} {t:SetTable} {ks:List (List Str)} {k:List Str} {h:Int} {adding:Bool} {Q:SetFound→ge→Prop} (hu:A.units < cLine)
 (ho:s.heap.get? S=a_ o) (hd:o.data=.set es ep t) (T:Tb t es.size) (hm:t.mask % 2=1) (hE:Ent prog w s.heap ks es.toList) (hx:TK prog w s.heap k b) (hk:k ∉ ks) :
 ∀ (N fuel:Nat) (st:Option Probe),(∀ p,st=a_ p→Vp t p)→N < fuel→t.slot (advN t N (st.getD (t.probeStart h))).j=.empty→(∀ m,m < N→t.slot (advN t m (st.getD (t.probeStart h))).j≠.empty)→N < 10 * LL t.mask →
  (∀ j,Q (.free j f_) s)→u_ (x_ prog w) A (Kk S (.ref b) h adding fuel st) Q E s:=by
 intro N
 induction N using Nat.strongRecOn with
 | _ N ih =>
  intro fuel st hv hf he hn hN hQ
  cases fuel with
  | zero=>exact absurd hf (IC _)
  | succ fuel =>
   have hfit:=jT T
   have v:Vp t (st.getD (t.probeStart h)):=by
    cases st with
    | none=>exact qk h
    | some p=>exact hv p rfl
   unfold Kk
   refine g_ (HZ ho hd hfit ?_)
   dsimp only
   have hgw:t.gaveWay=f_:=by unfold SetTable.gaveWay; rw [hm]; rfl
   rw [hgw]
   simp only [B_,if_false]
   unfold SetTable.probe
   rcases uF T _ h N _ (st.getD (t.probeStart h)) v hN he hn with q | ⟨m,i,hmN,q1,q2,q3,q5⟩
   · rw [q]
     dsimp only
     exact j_ (hQ _)
   · rw [q5]
     dsimp only
     have hi:i < es.size:=by
      have:=(Gu.mp q2).1
      rw [T.size] at this
      exact this
     obtain ⟨k',a,hk',ea,ta⟩:=hE es[i] (Ht.mpr (Array.getElem_mem hi))
     have hg:es[i]?=a_ (es[i].1,.ref a):=by rw [Array.getElem?_eq_getElem hi,← ea]
     have rest:u_ (x_ prog w) A (do
      let a_ (_,y):=es[i]? | Lb "internal:set-entry"
      let equal ← holding [y] (eqBool y (.ref b))
      let (es',_,t') ← setState S
      if (adding && equal)=e_ then return SetFound.there ck
      let a_ same:=t'.sameMemory t.moves t.mask | Lb "set.changed-during-lookup:is-the-new-block-at-the-old-address"
      let still ← match (if same then t'.slot (advN t m (st.getD (t.probeStart h))).j else .empty) with
       | .live i'=>match es'[i']? with
        | some (_,y')=>do pure (if ← isSame y' y then a_ i' else ck)
        | none=>pure ck
       | _=>pure ck
      match still with
      | none=>rule "set.search.anew"; Kk S (.ref b) h adding fuel ck
      | some i'=>if equal then return .there (a_ i') else Kk S (.ref b) h adding fuel (a_ (advN t (m + 1) (st.getD (t.probeStart h))))) Q E s:=by
      rw [hg]
      dsimp only
      refine g_ (GL (wpAny_eqBool_tuple hu ta hx ?_))
      have hne:t_ (k'=k)=f_:=decide_eq_false fun z=>hk (z ▸ hk')
      rw [hne]
      refine g_ (HZ ho hd hfit ?_)
      dsimp only
      rw [Lq]
      simp only [B_,if_false]
      have hsm:t.sameMemory t.moves t.mask=a_ e_:=by unfold SetTable.sameMemory; simp
      rw [hsm]
      dsimp only
      rw [if_pos rfl,q1]
      dsimp only
      rw [hg]
      dsimp only
      have hsame:isSame (A_ a) (A_ a)=pure e_:=by
       unfold isSame
       dsimp only
       rw [if_pos (by simp)]
      rw [hsame]
      refine g_ (g_ (j_ (j_ ?_)))
      rw [if_pos rfl]
      refine ih (N - (m + 1)) (by omega) fuel (a_ (advN t (m + 1) (st.getD (t.probeStart h)))) (fun p hp=>by cases hp; exact Vp.advN (m + 1) v) (by omega) ?_ ?_ (by omega) hQ
      · show t.slot (advN t (N - (m + 1)) (advN t (m + 1) (st.getD (t.probeStart h)))).j=.empty
        rw [← gu,show m + 1 + (N - (m + 1))=N by omega]
        exact he
      · intro x hx'
        show t.slot (advN t x (advN t (m + 1) (st.getD (t.probeStart h)))).j≠.empty
        rw [← gu]
        exact hn _ (by omega)
     by_cases hled:t.led=e_
     · rw [hled]
       simp only [Iw,B_,if_false]
       exact rest
     · have hled':t.led=f_:=by simpa using hled
       rw [hled']
       simp only [JW,if_true]
       refine g_ (zN hx (fun v hv=>?_) ?_)
       · obtain ⟨e,he',rfl⟩:=G0.mp hv
         have hem:e∈es.toList:=by
          have:=Ht.mp he'
          rw [Array.mem_filter] at this
          exact Ht.mpr this.1
         obtain ⟨k2,a2,_,e2,t2⟩:=hE e hem
         exact ⟨k2,a2,e2,t2⟩
       · simp only [B_,if_false]
         exact rest
end
section
variable {prog:n_} {w:y_} {A:w_} {E:d_→ge→Prop} {s:ge}
abbrev byT (w:y_):Bool:=w.params.followText "set-order"
def SetT (prog:n_) (w:y_) (h:FF) (S:i_) (ks:List (List Str)) (vs:List d_) (n:Nat):Prop :=
 ∃ o es ep t,h.get? S=a_ o∧o.ExactSet∧o.data=.set es ep t∧es.size=n∧Tb t n∧((t.mask=7∧n≤4)∨(t.mask=31∧n≤18))∧Ent prog w h ks es.toList∧(es.toList.map (·.2)).Perm vs∧t.led=(!byT w)∧((∀ k∈ks,k≠[])→n≠0→t.plain=f_)
theorem lU {k:List Str} {a:i_} {Q:Bool→ge→Prop} (hk:TK prog w s.heap k a) (h:∀ b,(k≠[]→b=f_)→Q b s):u_ (x_ prog w) A (hashByValue 8 (.ref a)) Q E s:=by
 have hT:=hk.typeIs
 obtain ⟨o,items,n,ho,_,hd,hi⟩:=hk
 have h0:items.toList=[]→k=[]:=fun e=>by
  rw [e] at hi
  cases hi
  rfl
 unfold hashByValue
 refine g_ (wpAny_specialOf hT F.slot_tuple_hash.lookup ?_)
 dsimp only
 refine g_ (wpAny_seqItems ho hd ?_)
 refine g_ ?_
 show u_ _ _ (forIn items _ _) _ _ s
 rw [← IF]
 refine Km _ (fun rest r s'=>r.1=ck∧s'=s∧(∀ v∈rest,∃ x t,v=Ii x t)∧(rest=[]→k=[])) _ ?_ ?_ _ _ ⟨rfl,rfl,kP hi,h0⟩
 · rintro v rest r s' ⟨hr,rfl,hall,_⟩
   obtain ⟨x,t,rfl⟩:=hall v p_
   refine g_ (j_ ?_)
   simp only [JW,if_true]
   refine j_ ?_
   exact j_ (h _ fun _=>rfl)
 · rintro ⟨r1,r2⟩ s' ⟨hr,rfl,_,h1⟩
   simp only at hr
   subst hr
   exact j_ (h _ fun z=>absurd (h1 rfl) z)
theorem TK.keeps {h h':FF} {k:List Str} {a S:i_} {o:Obj} {es ep t} (x:TK prog w h k a) (ho:h.get? S=a_ o) (hd:o.data=.set es ep t) (hs:JB S h h'):TK prog w h' k a:=by
 obtain ⟨o',items,n,ho',hc,hd',hi⟩:=x
 have hne:a≠S:=by
  rintro rfl
  obtain rfl:o'=o:=F0 (ho'.symm.trans ho)
  rw [hd] at hd'; exact nomatch hd'
 exact ⟨o',items,n,(hs.2 a hne).trans ho',hc,hd',hi⟩
theorem Ent.keeps {h h':FF} {ks:List (List Str)} {l:List (Int×d_)} {S:i_} {o:Obj} {es ep t} (x:Ent prog w h ks l) (ho:h.get? S=a_ o) (hd:o.data=.set es ep t) (hs:JB S h h'):Ent prog w h' ks l:=fun e he=>by
 obtain ⟨k,a,h1,h2,h3⟩:=x e he
 exact ⟨k,a,h1,h2,h3.keeps ho hd hs⟩
theorem kQ {h:FF} {S:i_} {o:Obj} {es es':Array (Int×d_)} {ep:Nat} {t t':SetTable} (ho:h.get? S=a_ o) (hd:o.data=.set es ep t):(h.update S (JJ es' t')).get? S=a_ { o with data:=.set es' (ep + 1) t' }:=by
 have:=Heap.get?_update_self (JJ es' t') ho (by rw [putSet_of es' t' hd]; rfl)
 rw [putSet_of es' t' hd] at this; exact this
theorem Ent.insert {h:FF} {ks:List (List Str)} {es:Array (Int×d_)} {k:List Str} {b:i_} {p:Nat} {x:Int} (hE:Ent prog w h ks es.toList) (hb:TK prog w h k b):Ent prog w h (k :: ks) (FJ es p (x,.ref b)).toList:=fun e he=>by
 have he':=(KP es p (x,A_ b)).mem_iff.mp he
 rw [Mj] at he'
 rcases Ga.mp he' with q | q
 · obtain ⟨k',a,h1,h2,h3⟩:=hE e q
   exact ⟨k',a,on _ h1,h2,h3⟩
 · rw [GG] at q
   subst q
   exact ⟨k,b,p_,rfl,hb⟩
theorem qr {t:SetTable} {n:Nat} (T:Tb t n):t.fill=n:=by unfold MX; rw [T.size,T.dm]; simp
theorem jq {n:Nat} (h:n≤18):n≤sizeLine:=by rw [Jl]; omega
theorem sW {α:Type} (es:Array α):(pi es.size).filterMap (fun i=>es[i]?)=es.toList:=by
 apply Mi
 intro i
 have:(pi es.size).filterMap (fun i=>es[i]?)=(pi es.size).pmap (fun i h=>es[i]) (fun i h=>Gr.mp h):=by
  rw [List.pmap_eq_map_attach,← List.filterMap_eq_map]
  conv=>lhs; rw [← List.attach_map_subtype_val (pi es.size)]
  rw [IE]
  congr 1
  funext ⟨i,hi⟩
  simp [Gr.mp hi]
 rw [this]
 simp [List.getElem?_pmap,Ir]
 by_cases hi:i < es.size
 · simp [hi]
 · simp [hi]
theorem wc {m finger moves:Nat} {led plain:Bool} {hs:Array Int} {t:SetTable} {order:Array Nat} (e:laid m finger moves led plain hs=a_ (t,order)):t.led=led∧t.plain=plain:=by
 unfold laid at e
 cases hc:layClean m hs with
 | none=>rw [hc] at e; cases e
 | some o=>rw [hc] at e; cases e; exact ⟨rfl,rfl⟩
theorem zO {S b:i_} {ks:List (List Str)} {vs:List d_} {n:Nat} {k:List Str} {Q:Bool→ge→Prop} (hu:A.units < cLine) (hS:SetT prog w s.heap S ks vs n) (hx:TK prog w s.heap k b) (hk:k ∉ ks) (hn:n + 1≤18)
 (h:∀ h',JB S s.heap h'→SetT prog w h' S (k :: ks) (.ref b :: vs) (n + 1)→Q e_ { s with heap:=h' }):u_ (x_ prog w) A (setAddHashed S (.ref b) (hsh prog w k)) Q E s:=by
 obtain ⟨o,es,ep,t,ho,hex,hd,hsz,T,hm,hE,hpm,hled,hpl0⟩:=hS
 have hfit:=jT T
 have hfit':t.fits es.size=e_:=by rw [hsz]; exact hfit
 have hodd:t.mask % 2=1:=by rcases hm with ⟨e,_⟩ | ⟨e,_⟩ <;> rw [e]
 have hroom:n + 1≤t.mask:=by rcases hm with ⟨e,q⟩ | ⟨e,q⟩ <;> omega
 unfold setAddHashed setAddHashedIn
 refine GL (g_ (HZ ho hd hfit' ?_))
 dsimp only
 have hbs:byScan (A_ b) es=f_:=by unfold byScan; rfl
 rw [hbs]
 simp only [B_,if_false]
 unfold setSearch
 obtain ⟨N,h1,h2,h3⟩:=zL T (qk (t:=t) (hsh prog w k))
 have hmk:t.mask≤31:=by rcases hm with ⟨e,_⟩ | ⟨e,_⟩ <;> omega
 refine g_ (qp (ks:=ks) hu ho hd (by rw [hsz]; exact T) hodd hE hx hk N 100000 ck (fun p hp=>by cases hp) (by unfold LL at h1; omega) h2 h3 h1 fun j=>?_)
 dsimp only
 refine g_ (HZ ho hd hfit' ?_)
 dsimp only
 obtain ⟨P1,P2,P3,P4,P5⟩:=zM T hroom j
 have hpm1:((FJ es (t.put j).2 (hsh prog w k,A_ b)).toList.map (·.2)).Perm (.ref b :: vs):=by
  refine ((KP es (t.put j).2 (hsh prog w k,A_ b)).map (·.2)).trans ?_
  rw [Mj,HX]
  exact (hpm.append_right _).trans (JU _ _)
 have go:∀ bv:Bool,((∀ x∈k :: ks,x≠[])→(if bv then (t.put j).1 else { (t.put j).1 with plain:=f_ }).plain=f_)→u_ (x_ prog w) A (do
  storeSet S (FJ es (t.put j).2 (hsh prog w k,.ref b)) (if bv then (t.put j).1 else { (t.put j).1 with plain:=f_ })
  if (!f_ && (if bv then (t.put j).1 else { (t.put j).1 with plain:=f_ }).tooFull)=e_ then setRelay S (Lj (es.size + 1))
  return e_) Q E s:=by
  intro bv hbv
  have T2:∃ t2,(if bv then (t.put j).1 else { (t.put j).1 with plain:=f_ })=t2∧Tb t2 (n + 1)∧t2.mask=t.mask∧t2.led=t.led:=by
   cases bv with
   | true=>exact ⟨_,rfl,P1,P3,rfl⟩
   | false=>exact ⟨_,rfl,⟨P1.size,P1.dm,P1.cyc,P1.room⟩,P3,rfl⟩
  obtain ⟨t2,e2,T2,M2,L2⟩:=T2
  rw [e2] at hbv ⊢
  have hsz2:(FJ es (t.put j).2 (hsh prog w k,A_ b)).size=n + 1:=by
   rw [gv _ _ _ (by rw [hsz]; exact P2),hsz]
  refine g_ (wpAny_storeSet_of ho hd ?_ (by rw [hsz2]; exact jq hn))
  have hsb:=Ly s.heap S (JJ (FJ es (t.put j).2 (hsh prog w k,A_ b)) t2)
  have hg:=kQ (es':=FJ es (t.put j).2 (hsh prog w k,A_ b)) (t':=t2) ho hd
  have hE2:Ent prog w (s.heap.update S (JJ (FJ es (t.put j).2 (hsh prog w k,A_ b)) t2)) (k :: ks) (FJ es (t.put j).2 (hsh prog w k,A_ b)).toList:=(hE.insert hx).keeps ho hd hsb
  by_cases hf:t2.tooFull=e_
  · rw [hf]
    simp only [JW,Bool.and_self,if_true]
    have hfl:t2.fill * 5 ≥ t2.mask * 3:=by unfold Mt at hf; simpa using hf
    rw [qr T2,M2] at hfl
    have h5:n + 1=5∧t.mask=7:=by rcases hm with ⟨e,q⟩ | ⟨e,q⟩ <;> rw [e] at hfl <;> omega
    have hn4:n=4:=by omega
    unfold setRelay
    refine g_ (g_ (HZ hg rfl (by rw [hsz2]; exact jT T2) ?_))
    dsimp only
    rw [hsz,hn4]
    rw [if_neg (by rw [Jl]; decide)]
    have hrl:t2.relaid ((FJ es (t.put j).2 (hsh prog w k,A_ b)).map (·.1)) (Lj (4 + 1))=laid 31 t2.finger (t2.movedTo 31) t2.led t2.plain ((FJ es (t.put j).2 (hsh prog w k,A_ b)).map (·.1)):=by
     unfold SetTable.relaid
     rw [show sizeAbove (Lj (4 + 1)) - 1=31 by decide]
    obtain ⟨t3,order,r1,r2,r3,r4,r5,r6,r7⟩:=wb (finger:=t2.finger) (moves:=t2.movedTo 31) (led:=t2.led) (plain:=t2.plain) CQ ((FJ es (t.put j).2 (hsh prog w k,A_ b)).map (·.1)) (by rw [I_,hsz2]; omega)
    have r8:t3.led=t2.led∧t3.plain=t2.plain:=wc r1
    rw [hrl,r1]
    rw [I_,hsz2] at r6 r7
    have hperm:(order.filterMap (fun i=>(FJ es (t.put j).2 (hsh prog w k,A_ b))[i]?)).toList.Perm (FJ es (t.put j).2 (hsh prog w k,A_ b)).toList:=by
     rw [Array.toList_filterMap]
     refine (r7.filterMap _).trans ?_
     rw [← hsz2,sW]
    have hsz3:(order.filterMap (fun i=>(FJ es (t.put j).2 (hsh prog w k,A_ b))[i]?)).size=n + 1:=by
     rw [← Gi,hperm.length_eq,Gi,hsz2]
    show u_ (x_ prog w) A ((if ((order.filterMap (fun i=>(FJ es (t.put j).2 (hsh prog w k,A_ b))[i]?)).size != (FJ es (t.put j).2 (hsh prog w k,A_ b)).size)=e_ then (Lb "internal:set-table-lost-an-element":Sem _) else pure (order.filterMap (fun i=>(FJ es (t.put j).2 (hsh prog w k,A_ b))[i]?),t3)) >>= fun x=>storeSet S x.1 x.2) _ _ _
    rw [if_neg (by rw [hsz3,hsz2]; simp)]
    refine g_ (j_ ?_)
    refine wpAny_storeSet_of hg rfl ?_ (by rw [hsz3]; exact jq hn)
    have hsb2:=Ly (s.heap.update S (JJ (FJ es (t.put j).2 (hsh prog w k,A_ b)) t2)) S (JJ (order.filterMap (fun i=>(FJ es (t.put j).2 (hsh prog w k,A_ b))[i]?)) t3)
    refine j_ (h _ (hsb.trans hsb2) ⟨_,_,_,t3,kQ hg rfl,hex,rfl,hsz3,r6,.inr ⟨r2,hn⟩,?_,(hperm.map (·.2)).trans hpm1,r8.1.trans (L2.trans hled),fun z _=>r8.2.trans (hbv z)⟩)
    have hE3:=hE2.keeps hg rfl hsb2
    exact fun e he=>hE3 e (hperm.mem_iff.mp he)
  · have hf':t2.tooFull=f_:=by simpa using hf
    rw [hf']
    simp only [JW,Lq,B_,if_false]
    have hfl:¬ (t2.fill * 5 ≥ t2.mask * 3):=by unfold Mt at hf'; simpa using hf'
    rw [qr T2,M2] at hfl
    refine j_ (h _ hsb ⟨_,_,_,t2,hg,hex,rfl,hsz2,T2,?_,hE2,hpm1,L2.trans hled,fun z _=>hbv z⟩)
    rw [M2]
    rcases hm with ⟨e,q⟩ | ⟨e,q⟩
    · exact .inl ⟨e,by omega⟩
    · exact .inr ⟨e,hn⟩
 cases hpl:(t.put j).1.plain with
 | true =>
  simp only [if_true]
  refine g_ (lU hx fun bv hb=>?_)
  refine go bv fun z=>?_
  rw [hb (z k p_)]
  rfl
 | false =>
  simp only [B_,if_false]
  refine g_ (j_ ?_)
  exact go e_ fun _=>hpl
end
end ST
namespace ST
open PySem PySem.SetTable PyProof.Rows
section
variable {prog:n_} {w:y_} {A:w_} {R:LS→ge→Prop} {I:i_} {fp wr:List i_} {G:Array JK→Array JK→Prop} {n:Nat} {P:Nat→d_→Prop} {St:Nat→ge→Prop}
theorem TK.moved {h h':FF} {k:List Str} {a:i_} (x:TK prog w h k a) (hm:∀ o,h.get? a=a_ o→h'.get? a=a_ o):TK prog w h' k a:=by
 obtain ⟨o',items,n,ho',hc,hd',hi⟩:=x
 exact ⟨o',items,n,hm _ ho',hc,hd',hi⟩
theorem SetT.moved {h h':FF} {S:i_} {ks:List (List Str)} {vs:List d_} {n:Nat} (x:SetT prog w h S ks vs n) (hS:∀ o,h.get? S=a_ o→h'.get? S=a_ o) (hm:∀ k∈ks,∀ a,TK prog w h k a→TK prog w h' k a):SetT prog w h' S ks vs n:=by
 obtain ⟨o,es,ep,t,ho,hex,hd,hsz,T,hmk,hE,hr⟩:=x
 exact ⟨o,es,ep,t,hS _ ho,hex,hd,hsz,T,hmk,fun e he=>let ⟨k,a,h1,h2,h3⟩:=hE e he; ⟨k,a,h1,h2,hm k h1 a h3⟩,hr⟩
theorem CU (W:WalksS prog w A.in1 I fp wr G n P St) (S:i_) (hSf:S ∉ fp) (hu:A.in1.units < cLine) (hwr:wr=[I]) (hI:∀ i s,St i s→∃ o vs,s.heap.get? I=a_ o∧o.data=.fields vs)
 (adr:Nat→i_) (key:Nat→List Str) (hval:∀ i v,P i v→v=.ref (adr i)) (hn:n≤18) (hdist:∀ i j,i < n→j < n→key i=key j→i=j) :
 ∀ (k i:Nat) (s:ge),n - i=k→i≤n→St i s→(∀ j,j < n→TK prog w s.heap (key j) (adr j)) →
  SetT prog w s.heap S (((pi i).map key).reverse) (((pi i).map fun j=>A_ (adr j)).reverse) i →
  (∀ s',Moved (S :: wr) G s s'→SetT prog w s'.heap S (((pi n).map key).reverse) (((pi n).map fun j=>A_ (adr j)).reverse) n→R (.ok (.ret .none)) s') →
  H_ (x_ prog w) A (.builtin "set.update.loop" ⟨[.ref S,.ref I],[]⟩) R s:=by
 have hSw:S ∉ wr:=fun h=>hSf (W.sub _ h)
 have hsub:∀ b∈wr,b∈S :: wr:=fun b hb=>on _ hb
 have notI:∀ {i:Nat} {s:ge} {k:List Str} {a:i_},St i s→TK prog w s.heap k a→a ∉ wr:=fun {i s k a} hst x hm=>by
  rw [hwr,GG] at hm
  subst hm
  obtain ⟨o',items,n,ho',hc,hd',hi⟩:=x
  obtain ⟨o,vs,ho,hd⟩:=hI _ _ hst
  rw [ho] at ho'
  cases ho'
  rw [hd] at hd'
  cases hd'
 intro k
 induction k with
 | zero =>
  intro i s hk hi hst hT hS hR
  have hin:i=n:=by omega
  subst hin
  refine Hj Kx ?_
  rw [Jp IK _]
  show u_ _ A.in1 (pyNext (.ref I) >>= _) _ _ s
  refine g_ (W.done s _ _ hst fun s' hm=>?_)
  show u_ _ A.in1 (ret FX) _ _ s'
  exact j_ (hR s' (hm.mono hsub) (hS.moved (fun o ho=>hm.heap S _ hSw ho) fun k' _ a x=>x.moved fun o ho=>hm.heap a _ (notI hst x) ho))
 | succ k ih =>
  intro i s hk hi hst hT hS hR
  have hlt:i < n:=by omega
  refine Hj Kx ?_
  rw [Jp IK _]
  show u_ _ A.in1 (pyNext (.ref I) >>= _) _ _ s
  refine g_ (W.item i s _ _ hlt hst fun v s' hP hst' hm=>?_)
  have hv:=hval i v hP
  subst hv
  have hT':∀ j,j < n→TK prog w s'.heap (key j) (adr j):=fun j hj=>(hT j hj).moved fun o ho=>hm.heap _ _ (notI hst (hT j hj)) ho
  have hS':SetT prog w s'.heap S (((pi i).map key).reverse) (((pi i).map fun j=>A_ (adr j)).reverse) i:=hS.moved (fun o ho=>hm.heap S _ hSw ho) fun k' _ a x=>x.moved fun o ho=>hm.heap a _ (notI hst x) ho
  show u_ _ A.in1 (holding [A_ (adr i)] (setAdd S (.ref (adr i))) >>= _) _ _ s'
  refine g_ (GL ?_)
  unfold setAdd
  refine GL ?_
  refine g_ (wpAny_pyHash_tuple hu (hT' i hlt) ?_)
  have hnew:key i ∉ ((pi i).map key).reverse:=fun hm=>by
   rw [List.mem_reverse] at hm
   obtain ⟨j,hj,e⟩:=G0.mp hm
   have hj':=Gr.mp hj
   have:=hdist j i (by omega) hlt e
   omega
  refine zO (s:={ s' with toks:=s'.toks + ((key i).length + 1) }) hu hS' (hT' i hlt) hnew (by omega) fun h' hsb hS2=>?_
  obtain ⟨oS,esS,epS,tS,hoS,_,hdS,_⟩:=hS'
  have hS3:SetT prog w h' S (((pi (i + 1)).map key).reverse) (((pi (i + 1)).map fun j=>A_ (adr j)).reverse) (i + 1):=by
   rw [MJ,HX,LC,HX,LC]
   exact hS2
  refine j_ ⟨plainId_quiet IK _,ih (i + 1) _ (by omega) hlt (W.frame _ s' _ _ hst' (by simp) fun b hb o e=>?_) (fun j hj=>(hT' j hj).keeps hoS hdS hsb) hS3 fun s'' hm'' hS''=>?_⟩
  · rw [hsb.2 b (fun h:b=S=>hSf (by rw [← h]; exact hb))]; exact e
  · refine hR s'' (Moved.trans W.gtrans ((hm.mono hsub).then_heap (by simp) fun b o hb e=>?_) hm'') hS''
    rw [hsb.2 b (fun h:b=S=>hb (by rw [h]; exact p_))]; exact e
end
section
variable {prog:n_} {w:y_} {A:w_} {E:d_→ge→Prop} {s:ge}
abbrev ni (led:Bool):Obj:={ cls:=.type "set",dict:=ck,data:=.set #[] 0 (.fresh 0 0 led) }
theorem wd {h:FF} {S:i_} (e:h.get? S=a_ (ni (!byT w))):SetT prog w h S [] [] 0 :=
 ⟨_,#[],0,_,e,⟨rfl,rfl,rfl⟩,rfl,rfl,⟨rfl,rfl,EU,Gd _⟩,.inl ⟨rfl,by omega⟩,(fun e he=>by simp at he),.refl _,rfl,fun _ z=>absurd rfl z⟩
theorem we (a:d_) {Q₁:d_→ge→Prop} (h:Q₁ (.ref s.heap.objs.size) { s with heap:=s.heap.push (ni (!byT w)) }):H_ (x_ prog w) A (.call (.builtin "set.__new__") ⟨[.type "set",a],[]⟩) (wants Q₁ E) s:=by
 refine codeAny_of_tree ?_; show u_ _ A.in1 (do checkBuiltinCall "set.__new__" ⟨[.type "set",a],[]⟩; again (.builtin "set.__new__" ⟨[.type "set",a],[]⟩)) _ _ s
 refine g_ (wpAny_of_eq (F.newCall_set_1 a) (j_ ⟨plainId_quiet F.plain_set_new _,Hj F.entry_set_new ?_⟩)); rw [Jp F.plain_set_new _]
 unfold IA.«set.__new__» MS; have hsub:=sub_set_self; obtain ⟨hp,g,d,tk,os⟩:=s
 dsimp only; wp_walk; refine wpAny_askSetting (j_ ?_)
 dsimp only; simp only [newObj]; exact g_ (wpAny_alloc (j_ (j_ h)))
theorem zP {l:i_} {items:Array d_} {key:Nat→List Str} {adr:Nat→i_} {R:LS→ge→Prop} (hh:A.handled=ck) (hu:A.units + 8 < cLine) (hl:s.heap.IsList l items)
 (hk:∀ i,i < items.size→items[i]?=a_ (.ref (adr i))∧TK prog w s.heap (key i) (adr i)) (hn:items.size≤18) (hdist:∀ i j,i < items.size→j < items.size→key i=key j→i=j)
 (hR:∀ (h':FF) (tk:Nat),SetT prog w h' s.heap.objs.size (((pi items.size).map key).reverse) (((pi items.size).map fun j=>A_ (adr j)).reverse) items.size→(∀ b o,b < s.heap.objs.size→s.heap.get? b=a_ o→h'.get? b=a_ o)→R (.ok (.ret .none)) { s with heap:=h',toks:=tk }) :
 H_ (x_ prog w) A (.call (.builtin "set.__init__") ⟨[.ref s.heap.objs.size,.ref l],[]⟩) R { s with heap:=s.heap.push (ni (!byT w)) }:=by
 have hS:(s.heap.push (ni (!byT w))).get? s.heap.objs.size=a_ (ni (!byT w)):=z_ _ rfl
 have hT:MW { s with heap:=s.heap.push (ni (!byT w)) } (.ref s.heap.objs.size) "set":=⟨_,hS,rfl⟩
 refine Jm HQ.init.plain F.entry_set_init (check_set_init_1 hT ?_)
 obtain ⟨ol,hol,hcl,nl,hdl⟩:=hl
 obtain ⟨ocls,odict,odata,oslots⟩:=ol
 simp only at hcl hdl
 subst hcl; subst hdl
 have hol':(s.heap.push (ni (!byT w))).get? l=a_ { cls:=.type "list",dict:=odict,data:=.seq items nl,slots:=oslots }:=k_ _ hol
 have s1:=F.sub_list_set
 have s2:=F.sub_list_frozenset
 have s3:(r_ "list" == r_ "dict")=f_:=by decide
 have hl1:(s.heap.push (ni (!byT w))).IsList l items:=⟨_,hol',rfl,nl,rfl⟩
 unfold IA.«set.__init__» noKeywords MI
 generalize hPI:pyIter=PI
 wp_walk
 subst hPI
 refine JZ hl1 (g_ (wpAny_runValue ?_))
 have hlS:l < s.heap.objs.size:=v_ hol
 have hneI:l≠(s.heap.push (ni (!byT w))).objs.size:=by rw [G6]; exact FM (Kf hlS)
 have hSf:s.heap.objs.size ∉ [(s.heap.push (ni (!byT w))).objs.size,l]:=by
  rw [G6]
  simp only [FB,Gx,or_false,not_or]
  exact ⟨FM (Ky _),KU hlS⟩
 have up:∀ {k:List Str} {a:i_},TK prog w s.heap k a→TK prog w ((s.heap.push (ni (!byT w))).push { cls:=.type "list_iterator",data:=.fields #[.ref l,.int 0 0] }) k a:=fun x=>x.moved fun o e=>k_ _ (k_ _ e)
 refine CU ((Walks.list (by simp [hh]) _ l hneI items).toS) s.heap.objs.size hSf (by show A.units + 1 + 1 < cLine; omega) rfl (fun i s' st=>by
  obtain ⟨⟨o,ho,_,hd⟩,_⟩:=st
  exact ⟨o,_,ho,hd⟩) adr key (fun i v hv=>?_) hn hdist (items.size - 0) 0 _ (by omega) (Gd _) ⟨⟨_,z_ _ rfl,rfl,rfl⟩,(hl1.push _)⟩ (fun j hj=>up (hk j hj).2) ?_ ?_
 · have hi:i < items.size:=(Gu.mp hv).1
   have:=(hk i hi).1
   rw [this] at hv
   exact (F0 hv).symm
 · exact wd (k_ _ hS)
 · intro s' hm hS'
   obtain ⟨h',g',d',tk',os'⟩:=s'
   have eg:g'=s.gens:=hm.gens
   have ed:d'=s.drawn:=hm.drawn
   have eo:os'=s.os:=hm.os
   subst eg; subst ed; subst eo
   show u_ _ _ _ _ _ _
   refine j_ ?_
   show u_ _ _ (ret FX) _ _ _
   refine j_ (hR h' tk' hS' fun b o hb e=>?_)
   have hb1:b≠s.heap.objs.size:=FM hb
   have hb2:b≠(s.heap.push (ni (!byT w))).objs.size:=by rw [G6]; exact FM (Kf hb)
   exact hm.heap b o (by simp only [FB,Gx,or_false,not_or]; exact ⟨hb1,hb2⟩) (k_ _ (k_ _ e))
theorem call_set_T {l:i_} {items:Array d_} {key:Nat→List Str} {adr:Nat→i_} {Q:d_→ge→Prop} (hh:A.handled=ck) (hu:A.units + 16 < cLine) (hl:s.heap.IsList l items)
 (hk:∀ i,i < items.size→items[i]?=a_ (.ref (adr i))∧TK prog w s.heap (key i) (adr i)) (hn:items.size≤18) (hdist:∀ i j,i < items.size→j < items.size→key i=key j→i=j)
 (h:∀ (h':FF) (tk:Nat),SetT prog w h' s.heap.objs.size (((pi items.size).map key).reverse) (((pi items.size).map fun j=>A_ (adr j)).reverse) items.size→(∀ b o,b < s.heap.objs.size→s.heap.get? b=a_ o→h'.get? b=a_ o)→Q (.ref s.heap.objs.size) { s with heap:=h',toks:=tk }) :
 u_ (x_ prog w) A (call (.type "set") [.ref l]) Q E s:=by
 obtain ⟨c,tl,hmro⟩:=HQ.mro
 have hmade:=HQ.made
 have hsub:=HQ.sub
 refine JE (codeAny_of_tree ?_)
 show u_ _ _ (callAny (.type "set") _) _ _ _
 refine j_ ⟨JN _ (by decide +kernel),Hj F.entry_type_call ?_⟩
 rw [Around.under_plain (weight_type_call_type "set" [.ref l] []) rfl]
 have h1:=HQ.notType
 have h2:=HQ.canCreate
 have hct:=F.typeCall_set_1 (.ref l)
 repeat (any_goals (first | assumption | wp_step))
 refine HK (we (.ref l) (E:=E) (Q₁:=fun obj s₁=>obj=.ref s.heap.objs.size∧s₁={ s with heap:=s.heap.push (ni (!byT w)) }) ⟨rfl,rfl⟩) fun r s₁ hr=>?_
 cases r with
 | error e=>exact hr
 | ok fl =>
  cases fl with
  | ret obj =>
   obtain ⟨rfl,rfl⟩:=hr
   have hT:MW { s with heap:=s.heap.push (ni (!byT w)) } (.ref s.heap.objs.size) "set":=⟨_,z_ _ rfl,rfl⟩
   have hli:=HQ.init.lookup
   have hbi:=HQ.init.bind (.ref s.heap.objs.size)
   repeat (any_goals (first | assumption | wp_step))
   refine HK (zP (R:=wants (fun r s₂=>r=.none∧∃ h' tk,s₂={ s with heap:=h',toks:=tk }∧SetT prog w h' s.heap.objs.size (((pi items.size).map key).reverse) (((pi items.size).map fun j=>A_ (adr j)).reverse) items.size ∧
    (∀ b o,b < s.heap.objs.size→s.heap.get? b=a_ o→h'.get? b=a_ o)) E) (by simp [hh]) (by show A.units + 1 + 8 < cLine; omega) hl hk hn hdist fun h' tk q1 q2=>⟨rfl,h',tk,rfl,q1,q2⟩) fun r₂ s₂ hr₂=>?_
   cases r₂ with
   | error e=>exact hr₂
   | ok fl₂ =>
    cases fl₂ with
    | ret r =>
     obtain ⟨rfl,h',tk,rfl,hS',hk'⟩:=hr₂
     repeat (any_goals (first | assumption | wp_step))
     exact h _ _ hS' hk'
    | _=>exact hr₂.elim
  | _=>exact hr.elim
theorem len_T {S:i_} {ks:List (List Str)} {vs:List d_} {n:Nat} {Q:d_→ge→Prop} (hS:SetT prog w s.heap S ks vs n) (hn:n≤18) (h:∀ t tk,Q (.int n t) { s with toks:=tk }):u_ (x_ prog w) A (call (.builtin "len") [.ref S]) Q E s:=by
 obtain ⟨o,es,ep,t,ho,hex,hd,hsz,T,hm,hE,hr⟩:=hS
 subst hsz
 exact call_len_set ho hex hd (jT T) (Int.lt_of_le_of_lt (show ((es.size:Nat):Int)≤18 by omega) (by decide)) (h _ _)
end
end ST
namespace FD
open PySem PySem.Spec PyProof.Rows L2
def jr:List Dv→Option (List Str)
 | []=>a_ []
 | .str x :: r=>(jr r).map (x :: ·)
 | _=>ck
def iE:List Dv→Option (List (List Str))
 | []=>a_ []
 | .tup ds :: r=>match jr ds,iE r with
  | some k,a_ ks=>a_ (k :: ks)
  | _,_=>ck
 | _=>ck
def iF:List Dv→Option (Rs Dv)
 | [.lst ds]=>match iE ds with
  | some ks=>if ks.Nodup∧ks.length≤18 then a_ (.ok (.int ks.length)) else ck
  | none=>ck
 | _=>ck
section
variable {X:Cx} {pins:List (i_×Obj)} {σ:L2.St} {H:Hp} {s:ge}
theorem jt {prog:n_} {w:y_}:∀ {ds:List Dv} {k:List Str} {ys:List V} {its:List d_},jr ds=a_ k→Reps X.K H ds ys→Vals ys its→PySem.ItemsAre (PySem.strKind prog w) k its
 | [],k,ys,its,h,r,v=>by
  cases h
  cases (show ys=[] from r)
  cases v
  exact .nil
 | .str x :: ds,k,ys,its,h,r,v=>by
  obtain ⟨y,us,rfl,r1,r2⟩:∃ v us,ys=v :: us∧Rep X.K H (.str x) v∧Reps X.K H ds us:=r
  cases (show y=.str x from r1)
  obtain ⟨k',h1,rfl⟩:=IW.mp (show (jr ds).map (x :: ·)=a_ k from h)
  cases v with
  | cons v1 v2 =>
   obtain ⟨t,rfl⟩:=v1
   exact .cons (by show LK x (.str x t)=e_; simp [LK]) (jt h1 r2 v2)
 | .non :: ds,k,ys,its,h,r,v=>by cases h
 | .bl _ :: ds,k,ys,its,h,r,v=>by cases h
 | .int _ :: ds,k,ys,its,h,r,v=>by cases h
 | .tup _ :: ds,k,ys,its,h,r,v=>by cases h
 | .lst _ :: ds,k,ys,its,h,r,v=>by cases h
 | .scr _ :: ds,k,ys,its,h,r,v=>by cases h
 | .exn _ :: ds,k,ys,its,h,r,v=>by cases h
theorem CV (I:Inv X pins σ H s) {ds:List Dv} {k:List Str} {v:V} {u:d_} (h:jr ds=a_ k) (r:Rep X.K H (.tup ds) v) (q:RelV v u):∃ a,u=.ref a∧ST.TK X.prog X.w s.heap k a:=by
 obtain ⟨a,xs,rfl,hH,rs⟩:=r.tupE
 cases (show u=A_ a from q)
 obtain ⟨its,rv,⟨o,e,c,n,d⟩,hz⟩:=I.tuple (SqT.of hH)
 exact ⟨a,rfl,o,its.toArray,_,e,c,d,by simpa using jt h rs rv⟩
theorem qt (I:Inv X pins σ H s):∀ {ds:List Dv} {ks:List (List Str)} {xs:List V} {its:List d_},iE ds=a_ ks→Reps X.K H ds xs→Vals xs its→ks.length=its.length∧∀ i,i < its.length→∃ a,its[i]?=a_ (.ref a)∧ST.TK X.prog X.w s.heap (ks.getD i []) a
 | [],ks,xs,its,h,r,v=>by
  cases h
  cases (show xs=[] from r)
  cases v
  exact ⟨rfl,fun i hi=>absurd hi (IC _)⟩
 | .tup es :: ds,ks,xs,its,h,r,v=>by
  obtain ⟨y,us,rfl,r1,r2⟩:∃ v us,xs=v :: us∧Rep X.K H (.tup es) v∧Reps X.K H ds us:=r
  unfold iE at h
  split at h
  · rename_i k ks' h1 h2
    cases h
    cases v with
    | cons v1 v2 =>
     obtain ⟨a,rfl,ta⟩:=CV I h1 r1 v1
     obtain ⟨q1,q2⟩:=qt I h2 r2 v2
     refine ⟨by simp [q1],fun i hi=>?_⟩
     cases i with
     | zero=>exact ⟨a,rfl,ta⟩
     | succ i =>
      obtain ⟨a',e1,e2⟩:=q2 i (by simpa using hi)
      exact ⟨a',by simpa using e1,by simpa using e2⟩
  · cases h
 | .non :: ds,ks,xs,its,h,r,v=>by cases h
 | .bl _ :: ds,ks,xs,its,h,r,v=>by cases h
 | .int _ :: ds,ks,xs,its,h,r,v=>by cases h
 | .str _ :: ds,ks,xs,its,h,r,v=>by cases h
 | .lst _ :: ds,ks,xs,its,h,r,v=>by cases h
 | .scr _ :: ds,ks,xs,its,h,r,v=>by cases h
 | .exn _ :: ds,ks,xs,its,h,r,v=>by cases h
theorem oj {α:Type} {ks:List α} {d:α} (h:ks.Nodup) {i j:Nat} (hi:i < ks.length) (hj:j < ks.length) (e:ks.getD i d=ks.getD j d):i=j:=by
 rw [Ih,Ih,xy hi,xy hj] at e
 exact (MC h).mp (by simpa using e)
end
section
variable {X:Cx} {p p2 pos pos2:Pos} {e:C_} {ga:FnA}
theorem qu (hu:X.A.units + 64 < cLine) (hc:X.calm=e_) (hg:Gl X "len") (hm:X.mg "len"=ck) (hg2:Gl X "set") (hm2:X.mg "set"=ck) (ha:FA X [e] ga)
 (he:h_ [.Call (.Name "set" p2) [e] [] pos2] X.env=(f_,eval (.Call (.Name "set" p2) [e] [] pos2) X.env) :: h_ [] X.env:=by kernel_rfl) (hpl:(FP pos (h_ [] X.env)).any (·.1)=f_:=by kernel_rfl)
 (he2:h_ [e] X.env=(f_,eval e X.env) :: h_ [] X.env:=by kernel_rfl) (hpl2:(FP pos2 (h_ [] X.env)).any (·.1)=f_:=by kernel_rfl) :
 FE X (.Call (.Name "len" p) [.Call (.Name "set" p2) [e] [] pos2] [] pos) (fB1 iF ga):=⟨fun pins s σ H Q I ⟨ρ,E,o⟩=>by
 refine Gq (et I hg hm MN ?_ (by decide) (by decide))
 refine Jf ?_ he hpl
 rw [he]
 show u_ _ _ (MK ((f_,eval (.Call (.Name "set" p2) [e] [] pos2) X.env) :: FP pos (h_ [] X.env))) _ _ s
 refine JO ?_
 refine Gq (et I hg2 hm2 (u:=.type "set") (by decide +kernel) ?_ (by decide) (by decide))
 refine Gg (thn (ha.h pos2 pins s σ H _ I ⟨ρ,E,OutA.bind o fun ds vs H1 e1 rs o1=>(show ∃ ds,Reps X.K H1 ds vs∧Out X H1 (iF ds) Q from ⟨ds,rs,o1⟩)⟩) fun us s1 ⟨vs,H1,I1,r1,ds,rs,o1⟩=>?_) he2 hpl2
 unfold iF at o1
 split at o1
 · rename_i es
   obtain ⟨v,rfl,r⟩:=cV rs
   obtain ⟨l,xs,rfl,hl,rx⟩:=r.lstE
   obtain ⟨u,rfl,ru⟩:=eC r1
   cases (show u=A_ l from ru)
   split at o1
   · rename_i ks hks
     split at o1
     · rename_i hnd
       obtain ⟨z,its,n,rv,hz,eh⟩:=I1.lstM hl
       obtain ⟨q1,q2⟩:=qt I1 hks rx rv
       have hsz:its.toArray.size=ks.length:=by simp [q1]
       refine ST.call_set_T (items:=its.toArray) (key:=fun i=>ks.getD i []) (adr:=fun i=>match its[i]? with | some (.ref a)=>a | _=>0) (I1.ok.hd hc) (by omega) ⟨_,eh,rfl,n,rfl⟩ (fun i hi=>?_) (by rw [hsz]; exact hnd.2) (fun i j hi hj eij=>?_) fun h' tk hS hkp=>?_
       · obtain ⟨a,e1,e2⟩:=q2 i (by simpa using hi)
         simp only [K9,e1]
         exact ⟨trivial,e2⟩
       · exact oj hnd.1 (by rw [← hsz]; exact hi) (by rw [← hsz]; exact hj) eij
       · refine Kc ?_
         refine ST.len_T hS (by rw [hsz]; exact hnd.2) fun t tk2=>⟨.int (ks.length:Nat),H1,?_,⟨t,by rw [hsz]⟩,o1 _ H1 (.refl H1) rfl⟩
         exact I1.kept (t':=tk2) fun b u q=>hkp b u (v_ q) q
     · exact o1.elim
   · exact o1.elim
 · exact o1.elim⟩
end
def xJ:Dv→Dv→Option (Rs Dv)
 | .lst xs,.int n=>if 0≤n∧xs.length * n.toNat≤100000∧n≤100000 then a_ (.ok (.lst (o_ n.toNat xs).flatten)) else ck
 | x,y=>Eg x y
section
variable {X:Cx}
theorem nj {K:c_} {H:Hp} {ds:List Dv} {vs:List V} (h:Reps K H ds vs):∀ n:Nat,Reps K H (o_ n ds).flatten (o_ n vs).flatten
 | 0=>rfl
 | n + 1=>by
  rw [GA,GA,Hs,Hs]
  exact h.append (nj h n)
def zQ:R2:=fun x y H Q=>D7 x y H Q∨(sL x y H Q∨rI CMul (fun i j=>.int (i * j)) x y H Q)
theorem zR:OpR X (GV .Mult) zQ:=op_rep.or zu
theorem zS:GOp X zQ xJ:=by
 intro dx dy x y H Q rx ry o
 cases dx with
 | lst xs =>
  cases dy with
  | int n =>
   have o2:Out X H (if 0≤n∧xs.length * n.toNat≤100000∧n≤100000 then a_ (.ok (.lst (o_ n.toNat xs).flatten)) else ck) Q:=o
   by_cases hc:0≤n∧xs.length * n.toNat≤100000∧n≤100000
   · rw [if_pos hc] at o2
     obtain ⟨p,vs,rfl,h1,q1⟩:=rx.lstE
     refine .inl ⟨p,n,vs,rfl,ry,h1,by omega,by omega,by rw [q1.length]; exact bG hc.2.1,fun l hl=>o2 _ _ (aq hl _) ⟨l,_,rfl,ao,Reps.mono (aq hl _) _ _ (nj q1 _)⟩⟩
   · rw [if_neg hc] at o2
     exact o2.elim
  | _=>exact .inr (uD _ _ x y H Q rx ry o)
 | _=>exact .inr (uD _ _ x y H Q rx ry o)
end
def frs {α:Type} (P:α→Bool):Sem α→Bool
 | .pure a=>P a
 | .fresh _=>e_
 | .at _ k=>frs P (k ())
 | .rule _ k=>frs P (k ())
 | .point _ k=>frs P (k ())
 | _=>f_
structure FE1 (X:Cx) (e:C_) (f:FnE):Prop where
 h:∀ (pins:List (i_×Obj)) (s:ge) (σ:L2.St) (H:Hp) (Q:VK),1≤s.toks→Inv X pins σ H s→tF X f σ H Q→u_ (x_ X.prog X.w) X.A (eval e X.env) (EP X pins σ Q) X.xe s
structure FT1 (X:Cx) (e:C_) (f:FnB):Prop where
 h:∀ (pins:List (i_×Obj)) (s:ge) (σ:L2.St) (H:Hp) (Q:Bool→Hp→Prop),1≤s.toks→Inv X pins σ H s→tT X f σ H Q→u_ (x_ X.prog X.w) X.A (isTrue e X.env (eval e X.env)) (TP X pins σ Q) X.xe s
structure FW1 (X:Cx) (e:C_) (f:FnB):Prop where
 h:∀ (whole:Sem d_) (pins:List (i_×Obj)) (s:ge) (σ:L2.St) (H:Hp) (Q:Bool→Hp→Prop),1≤s.toks→Inv X pins σ H s→tT X f σ H Q→u_ (x_ X.prog X.w) X.A (isTrue e X.env whole) (TP X pins σ Q) X.xe s
structure FS1 (X:Cx) (st:GT) (f:FnS):Prop where
 h:∀ (pins:List (i_×Obj)) (s:ge) (σ:L2.St) (H:Hp) (D:oN),1≤s.toks→Inv X pins σ H s→tS X f D σ H→u_ (x_ X.prog X.w) X.A (exec st X.env) (SP X pins D) X.xe s
structure Fx (X:Cx) (st:List GT) (f:FnS):Prop where
 h:∀ (pins:List (i_×Obj)) (s:ge) (σ:L2.St) (H:Hp) (D:oN),1≤s.toks→Inv X pins σ H s→tS X f D σ H→u_ (x_ X.prog X.w) X.A (execs st X.env) (SP X pins D) X.xe s
structure FTg (X:Cx) (e:C_) (f:FnB):Prop where
 h:∀ (pins:List (i_×Obj)) (s:ge) (σ:L2.St) (H:Hp) (Q:Bool→Hp→Prop),Inv X pins σ H s→tT X f σ H Q→u_ (x_ X.prog X.w) X.A (isTrue e X.env (eval e X.env)) (fun b s'=>(b=e_∨1≤s'.toks)∧TP X pins σ Q b s') X.xe s
structure FWg (X:Cx) (e:C_) (f:FnB):Prop where
 h:∀ (whole:Sem d_) (pins:List (i_×Obj)) (s:ge) (σ:L2.St) (H:Hp) (Q:Bool→Hp→Prop),Inv X pins σ H s→tT X f σ H Q→u_ (x_ X.prog X.w) X.A (isTrue e X.env whole) (fun b s'=>(b=e_∨1≤s'.toks)∧TP X pins σ Q b s') X.xe s
def zT:Flow→Bool
 | .next=>e_
 | _=>f_
structure FSg (X:Cx) (st:GT) (f:FnS):Prop where
 h:∀ (pins:List (i_×Obj)) (s:ge) (σ:L2.St) (H:Hp) (D:oN),Inv X pins σ H s→tS X f D σ H→u_ (x_ X.prog X.w) X.A (exec st X.env) (fun fl s'=>(zT fl=f_∨1≤s'.toks)∧SP X pins D fl s') X.xe s
section
variable {X:Cx} {a b o e:C_} {fa fo:FnE} {ga gb:FnB} {f g:FnS} {rest:List C_} {st:GT} {sts as bs:List GT} {pos apos cpos:Pos}
theorem FWg.ft (h:FWg X e ga):FTg X e ga:=⟨h.h _⟩
end
section
variable {prog:n_} {w:y_} {A:w_} {E:d_→ge→Prop} {s:ge}
end
section
variable {prog:n_} {w:y_} {A:w_} {E:d_→ge→Prop} {s:ge}
end
structure ZSt (z TI TO i1 i2 a b:i_) (i:Nat) (h:FF):Prop where
 z:IsZip h z TI TO .none
 ti:IsPair h TI (.ref i1) (.ref i2)
 to:∃ p q,IsPair h TO p q
 j1:h.IsTupleIter i1 a i
 j2:h.IsTupleIter i2 b i
structure ZNe (z TI TO i1 i2:i_):Prop where
 n1:TI≠z
 n2:TO≠z
 n3:i1≠z
 n4:i2≠z
 n5:TI≠TO
 n6:TI≠i1
 n7:TI≠i2
 n8:TO≠i1
 n9:TO≠i2
 n10:i1≠i2
theorem Fy {z TI TO i1 i2 c:i_} (h:c∈[z,TI,TO,i1,i2]):c=z∨c=TI∨c=TO∨c=i1∨c=i2:=by simpa using h
def tgG (X:Cx) (b:Dv→Ev→Option Ev):TG:=fun v σ H Q=>∃ d ρ ρ',Rep X.K H d v∧Envs X.K H σ ρ∧b d ρ=a_ ρ'∧∀ σ' H',Same H H'→Envs X.K H' σ' ρ'→Q σ' H'
theorem FG.pg {X:Cx} {tg:C_} {b:Dv→Ev→Option Ev} (h:FG X tg b):PG X tg (tgG X b):=fun pins s σ H v u Q I r ⟨d,ρ,ρ',rd,E,e,q⟩ =>
 thn (h.h pins s σ H v u d ρ ρ' I r rd E e) fun _ s' ⟨σ',H',I',e1,E'⟩=>⟨σ',H',I',q σ' H' e1 E'⟩
section
variable {X:Cx} {p pos:Pos} {e:C_} {es:List C_} {ga:FnA}
end
theorem Reps.set {K:c_} {H:Hp} {d:Dv} {v:V} (rd:Rep K H d v):∀ {ds:List Dv} {vs:List V} (j:Nat),Reps K H ds vs→Reps K H (ds.set j d) (vs.set j v)
 | [],vs,j,r=>by cases (show vs=[] from r); exact r
 | d0 :: ds,vs,0,r=>by
  obtain ⟨v0,vs',rfl,r0,rt⟩:∃ v us',vs=v :: us'∧Rep K H d0 v∧Reps K H ds us':=r
  exact ⟨v,vs',rfl,rd,rt⟩
 | d0 :: ds,vs,j + 1,r=>by
  obtain ⟨v0,vs',rfl,r0,rt⟩:∃ v us',vs=v :: us'∧Rep K H d0 v∧Reps K H ds us':=r
  exact ⟨v0,vs'.set j v,rfl,r0,Reps.set rd j rt⟩
section
variable {X:Cx} {i:Nat} {e ix:C_} {fe fi:FnE} {pos ps:Pos}
end
section
variable {X:Cx} {p pos:Pos} {e:C_} {es:List C_} {ga:FnA}
end
theorem om (its:List d_):slicePick its.toArray ck ck (a_ (-1))=its.reverse.toArray:=by
 have e:sliceRange ((its.length:Int) - 1) (-1) (-1)=(pi its.length).map fun (k:Nat)=>((its.length:Int) - 1 + (-1) * (k:Int)).toNat:=by
  have hc:(if (-1:Int) > 0 then (if ((its.length:Int) - 1) < -1 then (-1 - ((its.length:Int) - 1) + (-1) - 1) / (-1) else 0) else (if ((its.length:Int) - 1) > -1 then (((its.length:Int) - 1) - (-1) - (-1) - 1) / (-(-1)) else 0))=(its.length:Int):=by
   rw [if_neg (by decide)]
   split
   · have:((its.length:Int) - 1 - (-1) - (-1) - 1) / (-(-1))=(its.length:Int):=by
      rw [show ((its.length:Int) - 1 - (-1) - (-1) - 1)=(its.length:Int) by omega,show (-(-1):Int)=1 by decide,Int.ediv_one]
     exact this
   · omega
  unfold sliceRange
  dsimp only
  rw [hc]
  simp
 show ((sliceRange ((its.toArray.size:Int) - 1) (-1) (-1)).filterMap (its.toArray[·]?)).toArray=_
 rw [uk,e,IE,← p9]
 congr 2
 funext m
 show its.toArray[((its.length:Int) - 1 + (-1) * (m:Int)).toNat]?=_
 rw [show ((its.length:Int) - 1 + (-1) * (m:Int))=((its.length:Int) - 1 + (m:Int) * -1) by omega]
def CW:Dv→Option (Rs Dv)
 | .lst xs=>a_ (.ok (.lst xs.reverse))
 | _=>ck
def iG (fa:FnE):FnE:=fun ρ=>bnd (fa ρ) CW
section
variable {X:Cx}
theorem nk {a st:C_} {fa fs:FnE} {p2 pos:Pos} (ha:FE X a fa) (hst:FE X st fs) (hv:∀ ρ,fs ρ=a_ (.ok (.int (-1))):=by intro _; rfl):FE X (.Subscript a (.Slice ck ck (a_ st) p2) pos) (iG fa):=⟨fun pins s σ H Q I ⟨ρ,E,o⟩=>by
 refine Subscript_ (thn (ha.h pins s σ H (fun x H1=>Envs X.K H1 σ ρ∧∃ ds,Rep X.K H1 (.lst ds) x∧Out X H1 (a_ (.ok (.lst ds.reverse))) Q) I ⟨ρ,E,Out.bind o fun d v H1 e1 r1 o1=>?_⟩) fun v s1 ⟨x,H1,I1,r1,E1,ds,rx,q⟩=>?_)
 · cases d <;> try exact (show False from o1).elim
   exact ⟨E.mono e1,_,r1,o1⟩
 · refine wpAny_Slice ?_
   rw [LG]
   refine j_ ?_
   refine j_ ?_
   rw [evalPart_some]
   refine thn (hst.h pins s1 σ H1 (fun y H2=>y=.int (-1)∧Same H1 H2) I1 ⟨ρ,E1,by rw [hv]; exact fun v H' e r=>⟨r,e⟩⟩) fun u s3 ⟨y,H3,I3,r3,e3,e4⟩=>?_
   subst e3
   obtain ⟨tk,rfl⟩:=r3
   obtain ⟨b,xs,rfl,h1,h2⟩:=(Rep.mono e4 _ _ rx).lstE
   cases r1
   have I4:Inv X pins σ H3 { s3 with heap:=s3.heap.push { cls:=.type "slice",data:=.fields #[.none,.none,.int (-1) tk] } }:=I3.kept (t':=s3.toks) fun b ob q=>k_ _ q
   obtain ⟨its,r,ht,hz⟩:=I4.list (SqL.of h1)
   have hlen:=r.length
   show u_ (x_ X.prog X.w) X.A (LN a (.Slice ck ck (a_ st) p2) (.ref b) (.ref s3.heap.objs.size)) (EP X pins σ Q) X.xe _
   refine tail_any (ops:=[.ref b,.ref s3.heap.objs.size]) ht.isList.typeIs J_.lookup (Kh ht.isList (LU ..) .none .none (.int (-1) tk) (by simp) ?_ (by rw [uk] <;> omega)) (by with_unfolding_all rfl)
   rw [om]
   have hp:=I4.hok.fresh (m_ _)
   refine ⟨.ref _,_,I4.laid (t':=s3.toks) (o:=.lst xs.reverse) (fun b ob q=>k_ _ q) (m_ _) ?_,rfl,q _ _ (e4.trans (aq hp _)) ⟨_,_,rfl,ao,Reps.mono (aq hp _) _ _ (Reps.reverse h2)⟩⟩
   exact ⟨by rw [List.length_reverse]; exact hz,_,0,Vals.reverse r,z_ _ rfl⟩⟩
end
section
variable {X:Cx}
end
end FD
namespace ST
open PySem PySem.SetTable
abbrev Rise (xs:Array Nat):Prop:=xs.toList.Pairwise (· < ·)
theorem Rise.lt {xs:Array Nat} (R:Rise xs) {i k:Nat} (hi:i < xs.size) (hk:k < xs.size) (h:i < k):xs[i] < xs[k]:=by
 have:=JX.mp R i k (by simpa using hi) (by simpa using hk) h
 simpa using this
theorem Rise.le {xs:Array Nat} (R:Rise xs) {i k:Nat} (hi:i < xs.size) (hk:k < xs.size) (h:i≤k):xs[i]≤xs[k]:=by
 rcases Nat.lt_or_ge i k with h' | h'
 · exact Il (R.lt hi hk h')
 · have:i=k:=by omega
   subst this
   exact m_ _
def tm (m:Nat):SetTable:={ mask:=m,place:=#[],dummies:=#[],finger:=0,led:=e_,moves:=0,plain:=e_ }
def pos (m:Nat) (h:Int) (n:Nat):Nat:=(advN (tm m) n ((tm m).probeStart h)).j
def Pth (m:Nat) (l:List Nat) (h:Int) (j:Nat):Prop:=∃ N,N < 10 * LL m∧pos m h N=j∧∀ x,x < N→pos m h x∈l
theorem Pth.mono {m:Nat} {l l':List Nat} {h:Int} {j:Nat} (p:Pth m l h j) (hs:∀ x∈l,x∈l'):Pth m l' h j:=by
 obtain ⟨N,h1,h2,h3⟩:=p
 exact ⟨N,h1,h2,fun x hx=>hs _ (h3 x hx)⟩
def asc (t:SetTable) (es:Array (Int×d_)):List (Nat×(Int×d_)):=t.place.toList.zip es.toList
def Pa (t:SetTable) (es:Array (Int×d_)):Prop:=∀ je∈asc t es,Pth t.mask t.place.toList je.2.1 je.1
section
variable {prog:n_} {w:y_} {A:w_} {E:d_→ge→Prop} {s:ge}
def SetD (prog:n_) (w:y_) (h:FF) (S:i_) (ks:List (List Str)) (n:Nat):Prop :=
 ∃ o es ep t,h.get? S=a_ o∧o.ExactSet∧o.data=.set es ep t∧es.size=n∧Tb t n∧((t.mask=7∧n≤4)∨(t.mask=31∧n≤18)∨(t.mask=127∧n≤20))∧Ent prog w h ks es.toList∧Rise t.place∧Pa t es∧∀ k∈ks,∃ a,(hsh prog w k,A_ a)∈es.toList∧TK prog w h k a
end
end ST
namespace ST
open PySem PySem.SetTable PyProof.Rows
section
variable {prog:n_} {w:y_} {A:w_} {R:LS→ge→Prop} {I:i_} {fp wr:List i_} {G:Array JK→Array JK→Prop} {n:Nat} {P:Nat→d_→Prop} {St:Nat→ge→Prop}
theorem SetD.moved {h h':FF} {S:i_} {ks:List (List Str)} {n:Nat} (x:SetD prog w h S ks n) (hS:∀ o,h.get? S=a_ o→h'.get? S=a_ o) (hm:∀ k a,TK prog w h k a→TK prog w h' k a):SetD prog w h' S ks n:=by
 obtain ⟨o,es,ep,t,ho,hex,hd,hsz,T,hmk,hE,R,hP,hA⟩:=x
 exact ⟨o,es,ep,t,hS _ ho,hex,hd,hsz,T,hmk,fun e he=>let ⟨k,a,h1,h2,h3⟩:=hE e he; ⟨k,a,h1,h2,hm k a h3⟩,R,hP,fun k hk=>let ⟨a,q1,q2⟩:=hA k hk; ⟨a,q1,hm k a q2⟩⟩
end
section
variable {prog:n_} {w:y_} {A:w_} {E:d_→ge→Prop} {s:ge}
end
end ST
namespace FD
open PySem PySem.Spec PyProof.Rows L2
section
variable {X:Cx} {p p2 pos pos2:Pos} {e:C_} {ga:FnA}
end
section
variable {prog:n_} {w:y_} {A:w_} {E:d_→ge→Prop} {s:ge}
end
section
variable {prog:n_} {w:y_} {A:w_} {E:d_→ge→Prop} {s:ge}
end
structure ZMt (z TI TO i1 i2 a b:i_) (i:Nat) (h:FF):Prop where
 z:IsZip h z TI TO .none
 ti:IsPair h TI (.ref i1) (.ref i2)
 to:∃ p q,IsPair h TO p q
 j1:h.IsTupleIter i1 a i
 j2:h.IsListIter i2 b i
def tC (X:Cx) (i:Nat) (fc:FnE):TS:=fun D σ H=>∃ ρ,Envs X.K H σ ρ∧match fc ρ with
 | none=>False
 | some (.exc c)=>XW X c H
 | some (.ok d)=>∃ ys,d=.lst ys∧∀ H5 p vs,Same H H5→H5 p=ck→Reps X.K H5 ys vs→D.nx (σ.set i (a_ (.ref p))) (upd H5 p (.lst vs))
section
variable {X:Cx} {i:Nat} {st:GT} {sts:List GT} {f:iZ} {fc:FnE}
theorem kT {n:Nat} {cs:List (Str×Nat)} {src:FnA} {b:Dv→Ev→Option Ev} {tst:Option FnB} {fe:FnE} (ρ:Ev) (d:Dv) (h:bj n cs src b tst fe ρ=a_ (.ok d)):∃ ys,d=.lst ys:=by
 rcases CB h with ⟨c,e1,e2⟩ | ⟨ds,ys,e1,e2,l1,l2,e3⟩
 · cases e2
 · cases e3; exact ⟨ys,rfl⟩
end
def jU {α:Type} (le:α→α→Bool) (x:α):List α→List α
 | []=>[x]
 | y :: l=>if le x y then x :: y :: l else y :: jU le x l
def dv {α:Type} (le:α→α→Bool):List α→List α
 | []=>[]
 | x :: l=>jU le x (dv le l)
theorem iH {α:Type} (le:α→α→Bool) (x:α):∀ l:List α,(jU le x l).Perm (x :: l)
 | []=>.refl _
 | y :: l=>by
  unfold jU
  split
  · exact .refl _
  · exact ((iH le x l).cons y).trans (MU ..)
theorem cX {α:Type} (le:α→α→Bool):∀ l:List α,(dv le l).Perm l
 | []=>.refl _
 | x :: l=>(iH le x _).trans ((cX le l).cons x)
structure Fz {α:Type} (le:α→α→Bool):Prop where
 t:∀ a b,le a b=f_→le b a=e_
 tr:∀ a b c,le a b=e_→le b c=e_→le a c=e_
 an:∀ a b,le a b=e_→le b a=e_→a=b
def kU:List Dv→Option (List Int)
 | []=>a_ []
 | .int i :: r=>(kU r).map (i :: ·)
 | _=>ck
section
variable {X:Cx} {pins:List (i_×Obj)} {σ:L2.St} {H:Hp} {s:ge}
theorem nn {K:c_}:∀ {ds:List Dv} {ns:List Int} {ys:List V} {its:List d_},kU ds=a_ ns→Reps K H ds ys→Vals ys its→Ke its ns
 | [],ns,ys,its,h,r,v=>by
  cases h
  cases (show ys=[] from r)
  cases v
  exact .nil
 | .int i :: ds,ns,ys,its,h,r,v=>by
  obtain ⟨y,us,rfl,r1,r2⟩:∃ v us,ys=v :: us∧Rep K H (.int i) v∧Reps K H ds us:=r
  cases (show y=.int i from r1)
  obtain ⟨k',h1,rfl⟩:=IW.mp (show (kU ds).map (i :: ·)=a_ ns from h)
  cases v with
  | cons v1 v2 =>
   obtain ⟨t,rfl⟩:=v1
   exact .cons i t (nn h1 r2 v2)
 | .non :: ds,_,_,_,h,_,_=>by cases h
 | .bl _ :: ds,_,_,_,h,_,_=>by cases h
 | .str _ :: ds,_,_,_,h,_,_=>by cases h
 | .tup _ :: ds,_,_,_,h,_,_=>by cases h
 | .lst _ :: ds,_,_,_,h,_,_=>by cases h
 | .scr _ :: ds,_,_,_,h,_,_=>by cases h
 | .exn _ :: ds,_,_,_,h,_,_=>by cases h
theorem eD:∀ {its:List d_} {ns:List Int},Ke its ns→Vals (ns.map V.int) its
 | _,_,.nil=>.nil
 | _,_,.cons n t h=>.cons ⟨t,rfl⟩ (eD h)
theorem fJ {n:Nat} (h:n < 64):n≤sizeLine:=by
 have:sizeLine=16777216:=by decide
 omega
end
section
variable {X:Cx} {p pos:Pos} {e:C_} {es:List C_} {ga:FnA}
end
section
variable {X:Cx} {p pos:Pos} {e:C_} {es:List C_} {ga:FnA}
end
section
variable {X:Cx} {p pos:Pos} {e:C_} {es:List C_} {ga:FnA}
end
section
variable {prog:n_} {w:y_} {A:w_} {E:d_→ge→Prop} {s:ge}
end
section
variable {prog:n_} {w:y_} {A:w_} {E:d_→ge→Prop} {s:ge}
end
theorem uH {tst:Option FnB} {elt:FnE} {cap:Ev}:∀ ds:List Dv,pJ tst elt cap ds=hZ (gN 0) tst elt cap ds
 | []=>rfl
 | d :: ds=>by
  unfold pJ hZ
  rw [uH ds]
  rfl
theorem qv (cs:List (Str×Nat)) (src:FnA) (tst:Option FnB) (fe:FnE):aN cs src tst fe=bj 1 cs src (gN 0) tst fe:=by
 funext ρ
 show bnd (src ρ) _=bnd (src ρ) _
 congr 1
 funext ds
 rw [uH]
 rfl
theorem qw {X:Cx} {st:GT} {i:Nat} {fc:FnE} (h:PS X st (tC X i fc)) (hl:∀ ρ d,fc ρ=a_ (.ok d)→∃ ys,d=.lst ys):FS X st (br i fc):=⟨fun pins s σ H D I ⟨ρ,E,o⟩=>by
 refine h pins s σ H D I ⟨ρ,E,?_⟩
 unfold br at o
 match hf:fc ρ with
 | none=>rw [hf] at o; exact o.elim
 | some (.exc c)=>rw [hf] at o; exact o
 | some (.ok d) =>
  rw [hf] at o
  obtain ⟨ys,rfl⟩:=hl ρ d hf
  exact ⟨ys,rfl,fun H5 p vs e5 hp rs=>o _ _ (e5.trans (aq hp _)) ((E.mono (e5.trans (aq hp _))).set ⟨p,vs,rfl,ao,Reps.mono (aq hp _) _ _ rs⟩)⟩⟩
end FD
namespace ST
open PySem PySem.SetTable PyProof.Rows
def SetS (prog:n_) (w:y_) (h:FF) (S:i_) (ks:List Str):Prop :=
 ∃ o es ep t,h.get? S=a_ o∧o.ExactSet∧o.data=.set es ep t∧t.fits es.size=e_∧ks.length≤60∧t.led=(!byT w)∧(es.size≠0→t.plain=f_)∧ElemsOf (PySem.strKind prog w) es.toList∧(∀ e∈es.toList,∃ x t,e.2=.str x t)∧(es.toList.map fun e=>strOf e.2).Perm ks
section
variable {prog:n_} {w:y_} {A:w_} {E:d_→ge→Prop} {s:ge}
end
section
variable {prog:n_} {w:y_} {A:w_} {R:LS→ge→Prop} {I:i_} {fp wr:List i_} {G:Array JK→Array JK→Prop} {n:Nat} {P:Nat→d_→Prop} {St:Nat→ge→Prop}
theorem SetS.moved {h h':FF} {S:i_} {ks:List Str} (x:SetS prog w h S ks) (hS:∀ o,h.get? S=a_ o→h'.get? S=a_ o):SetS prog w h' S ks:=by
 obtain ⟨o,es,ep,t,ho,r⟩:=x
 exact ⟨o,es,ep,t,hS _ ho,r⟩
end
section
variable {prog:n_} {w:y_} {A:w_} {E:d_→ge→Prop} {s:ge}
end
section
variable {prog:n_} {w:y_} {A:w_} {E:d_→ge→Prop}
variable {s:ge}
structure Rd (w:y_) (h:FF) (S:i_) (es:Array (Int×d_)) (ep:Nat) (t:SetTable):Prop where
 o:∃ o,h.get? S=a_ o∧o.ExactSet∧o.data=.set es ep t
 f:t.fits es.size=e_
 l:t.led=(!byT w)
 p:es.size≠0→t.plain=f_
theorem Rd.moved {h h':FF} {S:i_} {es:Array (Int×d_)} {ep:Nat} {t:SetTable} (r:Rd w h S es ep t) (k:∀ o,h.get? S=a_ o→h'.get? S=a_ o):Rd w h' S es ep t:=by
 obtain ⟨⟨o,ho,hr⟩,h1,h2,h3⟩:=r
 exact ⟨⟨o,k _ ho,hr⟩,h1,h2,h3⟩
end
section
variable {prog:n_} {w:y_} {A:w_} {E:d_→ge→Prop} {s:ge}
structure Wk (prog:n_) (w:y_) (S I:i_) (h:FF) (h':FF) (es:Array (Int×d_)) (vs:List d_) (fp:List i_) (St:Nat→FF→Prop):Prop where
 W:∀ A:w_,A.handled=ck→Walks prog w A I fp [I] vs.length (fun i v=>vs[i]?=a_ v) St
 st:St 0 h'
 pm:vs.Perm (es.toList.map (·.2))
 up:∀ b o,h.get? b=a_ o→h'.get? b=a_ o
 nw:h.objs.size≤I
 fp:∀ b∈fp,(b=S∨h.objs.size≤b)∧b < h'.objs.size
end
section
variable {prog:n_} {w:y_} {A:w_} {E:d_→ge→Prop} {s:ge}
theorem SetS.rd {h:FF} {S:i_} {ks:List Str} (x:SetS prog w h S ks):∃ es ep t,Rd w h S es ep t∧es.size≤60∧(∀ e∈es.toList,∃ x t,e.2=.str x t)∧(es.toList.map fun e=>strOf e.2).Perm ks:=by
 obtain ⟨o,es,ep,t,ho,hex,hd,hf,hk,hl,hp,hel,hs,hm⟩:=x
 refine ⟨es,ep,t,⟨⟨o,ho,hex,hd⟩,hf,hl,hp⟩,?_,hs,hm⟩
 have:=hm.length_eq
 simp at this
 omega
end
end ST
namespace FD
open PySem PySem.Spec PyProof.Rows L2
section
variable {X:Cx} {p p2 pos pos2:Pos} {e:C_} {ga:FnA}
end
end FD
namespace TS
open PySem PyProof.Rows
section logic
variable {M:Kr} {A:w_} {E:d_→ge→Prop} {J:ge→Prop} {σ α β:Type}
def wpJ (M:Kr) (A:w_) (E:d_→ge→Prop) (J:ge→Prop) (m:StateT σ Sem α) (Q:α→σ→Prop) (st:σ):Prop :=
 ∀ s,J s→u_ M A (m.run st) (fun r s'=>J s'∧Q r.1 r.2) E s
theorem bD {a:α} {Q:α→σ→Prop} {st:σ} (h:Q a st):wpJ M A E J (pure a:StateT σ Sem α) Q st:=fun s hs=>by
 rw [MG]
 exact j_ ⟨hs,h⟩
theorem aT {m:StateT σ Sem α} {f:α→StateT σ Sem β} {Q:β→σ→Prop} {st:σ} (h:wpJ M A E J m (fun a st'=>wpJ M A E J (f a) Q st') st):wpJ M A E J (m >>= f) Q st:=fun s hs=>by
 rw [StateT.run_bind]
 exact g_ (FU (h s hs) (fun r s' h'=>h'.2 s' h'.1) fun _ _ e=>e)
theorem kW {m:StateT σ Sem α} {Q Q':α→σ→Prop} {st:σ} (h:wpJ M A E J m Q st) (hq:∀ a st',Q a st'→Q' a st'):wpJ M A E J m Q' st:=fun s hs =>
 FU (h s hs) (fun r _ h'=>⟨h'.1,hq _ _ h'.2⟩) fun _ _ e=>e
theorem oo {Q:σ→σ→Prop} {st:σ} (h:Q st st):wpJ M A E J (get:StateT σ Sem σ) Q st:=fun s hs=>by
 rw [StateT.run_get]
 exact j_ ⟨hs,h⟩
theorem ig {f:σ→σ} {Q:PUnit→σ→Prop} {st:σ} (h:Q ⟨⟩ (f st)):wpJ M A E J (modify f:StateT σ Sem PUnit) Q st:=fun s hs=>by
 rw [StateT.run_modify]
 exact j_ ⟨hs,h⟩
theorem qz {m:Sem α} {Q:α→σ→Prop} {st:σ} (h:∀ s,J s→u_ M A m (fun a s'=>J s'∧Q a st) E s):wpJ M A E J (liftM m:StateT σ Sem α) Q st:=fun s hs=>by
 show u_ M A ((StateT.lift m:StateT σ Sem α).run st) _ E s
 rw [StateT.run_lift]
 exact g_ (FU (h s hs) (fun a s' h'=>j_ h') fun _ _ e=>e)
theorem zU (f:Nat→β→StateT σ Sem (ForInStep β)) (I:Nat→β→σ→Prop) (Q:β→σ→Prop) (b:Nat)
 (step:∀ i c st,i < b→I i c st→wpJ M A E J (f i c) (fun r st'=>match r with | .done c'=>Q c' st' | .yield c'=>I (i + 1) c' st') st)
 (fin:∀ c st,I b c st→Q c st):∀ (n a:Nat) (c:β) (st:σ),a + n=b→I a c st→wpJ M A E J (forIn (List.range' a n 1) c f) Q st
 | 0,a,c,st,e,h=>by
  rw [List.range'_zero,List.forIn_nil]
  have:a=b:=by omega
  subst this
  exact bD (fin c st h)
 | n + 1,a,c,st,e,h=>by
  rw [List.range'_succ,List.forIn_cons]
  refine aT (kW (step a c st (by omega) h) fun r st' h'=>?_)
  cases r with
  | done c'=>exact bD h'
  | yield c'=>exact zU f I Q b step fin n (a + 1) c' st' (by omega) h'
theorem gL {a b:Nat} {f:Nat→β→StateT σ Sem (ForInStep β)} (I:Nat→β→σ→Prop) {Q:β→σ→Prop} (hab:a≤b)
 (step:∀ i c st,i < b→I i c st→wpJ M A E J (f i c) (fun r st'=>match r with | .done c'=>Q c' st' | .yield c'=>I (i + 1) c' st') st)
 (fin:∀ c st,I b c st→Q c st) {c:β} {st:σ} (h:I a c st):wpJ M A E J (forIn [a:b] c f) Q st:=by
 rw [Std.Legacy.Range.forIn_eq_forIn_range']
 have hsz:([a:b]:Ml).size=b - a:=by simp [Std.Legacy.Range.size]
 show wpJ M A E J (forIn (List.range' a ([a:b]:Ml).size 1) c f) Q st
 rw [hsz]
 exact zU f I Q b step fin (b - a) a c st (by omega) h
end logic
structure Od (blt:Nat→Nat→Bool):Prop where
 ir:∀ a,blt a a=f_
 tr:∀ a b c,blt a b=e_→blt b c=e_→blt a c=e_
 nt:∀ a b c,blt a c=e_→blt a b=e_∨blt b c=e_
def Lex (blt:Nat→Nat→Bool) (a b:Nat):Prop:=blt a b=e_∨(blt b a=f_∧a < b)
section order
variable {blt:Nat→Nat→Bool}
theorem Od.le (O:Od blt) {a b c:Nat} (h1:blt b a=f_) (h2:blt c b=f_):blt c a=f_:=by
 cases h:blt c a with
 | false=>rfl
 | true =>
  rcases O.nt _ b _ h with q | q
  · rw [q] at h2; cases h2
  · rw [q] at h1; cases h1
theorem Od.lt_le (O:Od blt) {a b c:Nat} (h1:blt a b=e_) (h2:blt c b=f_):blt a c=e_:=by
 rcases O.nt _ c _ h1 with q | q
 · exact q
 · rw [q] at h2; cases h2
theorem Od.le_lt (O:Od blt) {a b c:Nat} (h1:blt b a=f_) (h2:blt b c=e_):blt a c=e_:=by
 rcases O.nt _ a _ h2 with q | q
 · rw [q] at h1; cases h1
 · exact q
theorem Od.as (O:Od blt) {a b:Nat} (h:blt a b=e_):blt b a=f_:=by
 cases h':blt b a with
 | false=>rfl
 | true=>have:=O.tr _ _ _ h h'; rw [O.ir] at this; cases this
theorem Lex.tr (O:Od blt) {a b c:Nat} (h1:Lex blt a b) (h2:Lex blt b c):Lex blt a c:=by
 rcases h1 with h1 | ⟨h1,i1⟩
 · rcases h2 with h2 | ⟨h2,i2⟩
   · exact .inl (O.tr _ _ _ h1 h2)
   · exact .inl (O.lt_le h1 h2)
 · rcases h2 with h2 | ⟨h2,i2⟩
   · exact .inl (O.le_lt h1 h2)
   · exact .inr ⟨O.le h1 h2,by omega⟩
theorem Lex.of_le {a b:Nat} (h:blt b a=f_) (i:a < b):Lex blt a b:=.inr ⟨h,i⟩
end order
structure SB (a₀:Array Md) (kd:Lo) (p:Nat→Nat) (st:IT):Prop where
 sz:(Jv st).size=a₀.size
 at':∀ k,k < a₀.size→(Jv st)[k]?=a₀[p k]?
 lt:∀ k,k < a₀.size→p k < a₀.size
 inj:∀ a b,a < a₀.size→b < a₀.size→p a=p b→a=b
 kind:kindOf st=kd
 failed:Mc st=ck
 pend:Kw st=#[]
def mir (p:Nat→Nat) (i j k:Nat):Nat:=if i≤k∧k < j then p (i + j - 1 - k) else p k
def bub (p:Nat→Nat) (src dst k:Nat):Nat:=if k=dst then p src else if dst < k∧k≤src then p (k - 1) else p k
section state
variable {a₀:Array Md} {kd:Lo} {p:Nat→Nat} {st:IT}
theorem SB.mirror (B:SB a₀ kd p st) {i j:Nat} (hj:j≤a₀.size):SB a₀ kd (mir p i j) (setArr st (mirror (Jv st) i j ((j - i) / 2))) where
 sz:=(mirror_size _ _ _ _).trans B.sz
 at':=fun k hk=>by
  show (PyProof.Rows.mirror (Jv st) i j ((j - i) / 2))[k]?=_
  rw [getElem?_mirror_all (by rw [B.sz]; exact hj)]
  unfold mir
  split
  · exact B.at' _ (by omega)
  · exact B.at' _ hk
 lt:=fun k hk=>by
  unfold mir
  split
  · exact B.lt _ (by omega)
  · exact B.lt _ hk
 inj:=fun a b ha hb e=>by
  unfold mir at e
  split at e <;> split at e
  · have:=B.inj _ _ (by omega) (by omega) e; omega
  · have:=B.inj _ _ (by omega) hb e; omega
  · have:=B.inj _ _ ha (by omega) e; omega
  · exact B.inj _ _ ha hb e
 kind:=B.kind
 failed:=B.failed
 pend:=B.pend
theorem SB.bubble (B:SB a₀ kd p st) {src dst:Nat} (hs:src < a₀.size) (hd:dst≤src):SB a₀ kd (bub p src dst) (setArr st (bubble (Jv st) src (src - dst))) where
 sz:=(bubble_size _ _ _).trans B.sz
 at':=fun k hk=>by
  show (PyProof.Rows.bubble (Jv st) src (src - dst))[k]?=_
  rw [getElem?_bubble (by rw [B.sz]; exact hs) _ (by omega),show src - (src - dst)=dst by omega]
  unfold bub
  split
  · exact B.at' _ hs
  · split
    · exact B.at' _ (by omega)
    · exact B.at' _ hk
 lt:=fun k hk=>by
  unfold bub
  split
  · exact B.lt _ hs
  · split
    · exact B.lt _ (by omega)
    · exact B.lt _ hk
 inj:=fun a b ha hb e=>by
  unfold bub at e
  repeat' split at e
  all_goals first
   | omega
   | (have:=B.inj _ _ (by omega) (by omega) e; omega)
 kind:=B.kind
 failed:=B.failed
 pend:=B.pend
end state
def Cm (M:Kr) (A:w_) (J:ge→Prop) (a₀:Array Md) (kd:Lo) (blt:Nat→Nat→Bool):Prop :=
 ∀ (i j:Nat) (x y:Md) (s:ge) (E':d_→ge→Prop),a₀[i]?=a_ x→a₀[j]?=a_ y→J s→u_ M A (keyLt' kd x.1 y.1) (fun b s'=>J s'∧b=blt i j) E' s
section
variable {M:Kr} {A:w_} {E:d_→ge→Prop} {J:ge→Prop} {a₀:Array Md} {kd:Lo} {blt:Nat→Nat→Bool} {p:Nat→Nat} {st:IT}
theorem zV {i j:Nat} {Q:Option Bool→IT→Prop} (C:Cm M A J a₀ kd blt) (B:SB a₀ kd p st) (hi:i < a₀.size) (hj:j < a₀.size) (h:Q (a_ (blt (p i) (p j))) st):wpJ M A E J (ltAt' i j) Q st:=by
 have e1:(Jv st)[i]?=a_ (a₀[p i]'(B.lt i hi)):=by rw [B.at' i hi]; simp [B.lt i hi]
 have e2:(Jv st)[j]?=a_ (a₀[p j]'(B.lt j hj)):=by rw [B.at' j hj]; simp [B.lt j hj]
 rw [ltAt'_eq]
 refine aT (oo ?_)
 show wpJ M A E J (do let x ← elem' (Jv st) i; let y ← elem' (Jv st) j; lt' x y) Q st
 rw [elem'_eq,elem'_eq,e1,e2]
 refine aT (bD (aT (bD ?_)))
 rw [lt'_eq]
 refine aT (oo ?_)
 rw [B.kind]
 refine aT (qz fun s hs=>Kj (FU (C (p i) (p j) _ _ s _ (by simp [B.lt i hi]) (by simp [B.lt j hj]) hs) (fun b s' h'=>?_) fun _ _ e=>e))
 obtain ⟨h1,rfl⟩:=h'
 exact ⟨h1,bD h⟩
theorem sX {i j:Nat} {Q:Unit→IT→Prop} (h:Q () (setArr st (mirror (Jv st) i j ((j - i) / 2)))):wpJ M A E J (reverseSlice' i j) Q st:=by
 rw [reverseSlice'_eq]; exact ig h
structure Up (blt:Nat→Nat→Bool) (p:Nat→Nat) (n N:Nat):Prop where
 so:∀ a b,a < b→b < n→Lex blt (p a) (p b)
 lo:∀ a,a < n→p a < n
 re:∀ a,n≤a→a < N→p a=a
theorem Up.next (O:Od blt) {n N:Nat} (U:Up blt p n N) (h1:1≤n) (hn:n < N) (h:blt (p n) (p (n - 1))=f_):Up blt p (n + 1) N where
 so:=fun a b hab hb=>by
  by_cases hbn:b < n
  · exact U.so a b hab hbn
  · have hb':b=n:=by omega
    subst hb'
    have last:Lex blt (p (b - 1)) (p b):=.of_le h (by rw [U.re b (m_ _) hn]; exact U.lo _ (by omega))
    by_cases ha:a=b - 1
    · subst ha; exact last
    · exact (U.so a (b - 1) (by omega) (by omega)).tr O last
 lo:=fun a ha=>by
  by_cases han:a < n
  · have:=U.lo a han; omega
  · have:a=n:=by omega
    subst this
    rw [U.re a (m_ _) hn]
    omega
 re:=fun a ha hN=>U.re a (by omega) hN
theorem zW {a nrem:Nat} {Q:AscSt→IT→Prop} (O:Od blt) (C:Cm M A J a₀ kd blt) (B:SB a₀ kd p st) (ha:1≤a) (han:a≤nrem) (hn:nrem≤a₀.size) (U:Up blt p a a₀.size)
 (h:∀ n,a≤n→n≤nrem→Up blt p n a₀.size→(n=nrem∨blt (p n) (p (n - 1))=e_)→Q (ck,n) st):wpJ M A E J (ascLoop a nrem) Q st:=by
 unfold ascLoop
 refine gL (I:=fun x c st'=>st'=st∧c=(ck,x)∧a≤x∧Up blt p x a₀.size) han ?_ ?_ ⟨rfl,rfl,m_ _,U⟩
 · rintro x c st' hx ⟨rfl,rfl,hax,U'⟩
   dsimp only
   refine aT (zV C B (by omega) (by omega) ?_)
   cases hl:blt (p x) (p (x - 1)) with
   | true =>
    simp only [if_true]
    exact bD (h x hax (by omega) U' (.inr hl))
   | false =>
    simp only [B_,if_false]
    exact bD ⟨rfl,rfl,by omega,U'.next O (by omega) (by omega) hl⟩
 · rintro c st' ⟨rfl,rfl,hax,U'⟩
   exact h nrem hax (m_ _) U' (.inl rfl)
structure Dn (blt:Nat→Nat→Bool) (p:Nat→Nat) (n N:Nat):Prop where
 so:∀ a b,a < b→b < n→Lex blt (p b) (p a)
 lo:∀ a,a < n→p a < n
 re:∀ a,n≤a→a < N→p a=a
structure Dq (blt:Nat→Nat→Bool) (p:Nat→Nat) (c n N:Nat):Prop where
 cn:c < n
 d1:∀ a b,a < b→b < c→Lex blt (p b) (p a)
 d2:∀ a b,a < c→c≤b→b < n→blt (p b) (p a)=e_
 d3:∀ a b,c≤a→a < b→b < n→blt (p a) (p b)=f_∧blt (p b) (p a)=f_∧p a < p b
 lo:∀ a,a < n→p a < n
 re:∀ a,n≤a→a < N→p a=a
theorem Dq.turn {c n N:Nat} (D:Dq blt p c n N):Dn blt (mir p c n) n N where
 so:=fun a b hab hb=>by
  unfold mir
  by_cases hbc:c≤b
  · rw [if_pos ⟨hbc,hb⟩]
    by_cases hac:c≤a
    · rw [if_pos ⟨hac,by omega⟩]
      have:=D.d3 (c + n - 1 - b) (c + n - 1 - a) (by omega) (by omega) (by omega)
      exact .inr ⟨this.2.1,this.2.2⟩
    · rw [if_neg (by omega)]
      exact .inl (D.d2 a _ (by omega) (by omega) (by omega))
  · rw [if_neg (by omega),if_neg (by omega)]
    exact D.d1 a b hab (by omega)
 lo:=fun a ha=>by
  unfold mir
  split
  · exact D.lo _ (by omega)
  · exact D.lo _ ha
 re:=fun a ha hN=>by
  unfold mir
  rw [if_neg (by omega)]
  exact D.re a ha hN
theorem Dq.one {n N:Nat} (D:Dq blt p (n - 1) n N):Dn blt p n N where
 so:=fun a b hab hb=>by
  by_cases hbc:b < n - 1
  · exact D.d1 a b hab hbc
  · exact .inl (D.d2 a b (by omega) (by omega) hb)
 lo:=D.lo
 re:=D.re
theorem Dn.turn {n N:Nat} (D:Dn blt p n N):Up blt (mir p 0 n) n N where
 so:=fun a b hab hb=>by
  unfold mir
  rw [if_pos ⟨Gd _,by omega⟩,if_pos ⟨Gd _,hb⟩]
  exact D.so _ _ (by omega) (by omega)
 lo:=fun a ha=>by
  unfold mir
  rw [if_pos ⟨Gd _,ha⟩]
  exact D.lo _ (by omega)
 re:=fun a ha hN=>by
  unfold mir
  rw [if_neg (by omega)]
  exact D.re a ha hN
theorem Dn.next (O:Od blt) {n N:Nat} (D:Dn blt p n N) (h1:1≤n) (hn:n < N) (h:blt (p n) (p (n - 1))=e_):Dq blt p n (n + 1) N where
 cn:=by omega
 d1:=D.so
 d2:=fun a b ha hb hb'=>by
  have:b=n:=by omega
  subst this
  by_cases e:a=b - 1
  · subst e; exact h
  · rcases D.so a (b - 1) (by omega) (by omega) with q | ⟨q,_⟩
    · exact O.tr _ _ _ h q
    · exact O.lt_le h q
 d3:=fun a b ha hab hb=>by omega
 lo:=fun a ha=>by
  by_cases han:a < n
  · have:=D.lo a han; omega
  · have:a=n:=by omega
    subst this
    rw [D.re a (m_ _) hn]
    omega
 re:=fun a ha hN=>D.re a (by omega) hN
theorem Dq.next (O:Od blt) {c n N:Nat} (D:Dq blt p c n N) (hn:n < N) (h1:blt (p n) (p (n - 1))=f_) (h2:blt (p (n - 1)) (p n)=f_):Dq blt p c (n + 1) N where
 cn:=by have:=D.cn; omega
 d1:=D.d1
 d2:=fun a b ha hb hb'=>by
  by_cases hbn:b < n
  · exact D.d2 a b ha hb hbn
  · have:b=n:=by omega
    subst this
    exact O.le_lt h2 (D.d2 a (b - 1) ha (by have:=D.cn; omega) (by omega))
 d3:=fun a b ha hab hb=>by
  by_cases hbn:b < n
  · exact D.d3 a b ha hab hbn
  · have:b=n:=by omega
    subst this
    have hlt:p a < p b:=by
     have:=D.lo a (by omega)
     rw [D.re b (m_ _) hn]
     exact this
    by_cases e:a=b - 1
    · subst e; exact ⟨h2,h1,hlt⟩
    · obtain ⟨q1,q2,_⟩:=D.d3 a (b - 1) ha (by omega) (by omega)
      exact ⟨O.le h2 q1,O.le q2 h1,hlt⟩
 lo:=fun a ha=>by
  by_cases han:a < n
  · have:=D.lo a han; omega
  · have:a=n:=by omega
    subst this
    rw [D.re a (m_ _) hn]
    omega
 re:=fun a ha hN=>D.re a (by omega) hN
theorem qA {n nrem:Nat} {Q:Option Nat→IT→Prop} (O:Od blt) (C:Cm M A J a₀ kd blt) (B:SB a₀ kd p st) (h1:1≤n) (hnn:n≤nrem) (hn:nrem≤a₀.size) (D:Dn blt p n a₀.size)
 (h:∀ m p' st',SB a₀ kd p' st'→1≤m→m≤nrem→Up blt p' m a₀.size→Q (a_ m) st'):wpJ M A E J (tail3 n nrem) Q st:=by
 unfold tail3
 refine aT (sX ?_)
 have B':=B.mirror (i:=0) (j:=n) (by omega)
 exact aT (zW O C B' h1 hnn hn D.turn fun m hm1 hm2 U _=>bD (h m _ _ B' (by omega) hm2 U))
theorem zX {n nrem:Nat} {Q:DescSt→IT→Prop} (O:Od blt) (C:Cm M A J a₀ kd blt) (B:SB a₀ kd p st) (h1:2≤n) (hnn:n≤nrem) (hn:nrem≤a₀.size) (D:Dq blt p (n - 1) n a₀.size)
 (h:∀ m neq p' st',SB a₀ kd p' st'→n≤m→m≤nrem→neq + 1≤m→Dq blt p' (m - (neq + 1)) m a₀.size→Q (ck,m,neq) st'):wpJ M A E J (descLoop n nrem) Q st:=by
 unfold descLoop
 refine gL (I:=fun x c st'=>∃ neq p',c=(ck,x,neq)∧SB a₀ kd p' st'∧n≤x∧neq + 1≤x∧Dq blt p' (x - (neq + 1)) x a₀.size) hnn ?_ ?_ ⟨0,p,rfl,B,m_ _,by omega,D⟩
 · rintro x c st' hx ⟨neq,p',rfl,B',hax,hq,D'⟩
   dsimp only
   refine aT (zV C B' (by omega) (by omega) ?_)
   cases hl:blt (p' x) (p' (x - 1)) with
   | true =>
    simp only [if_true]
    by_cases hneq:neq > 0
    · rw [if_pos hneq]
      refine aT (sX (bD ?_))
      have B2:=B'.mirror (i:=x - (neq + 1)) (j:=x) (by omega)
      refine ⟨0,_,rfl,B2,by omega,by omega,?_⟩
      have D2:=D'.turn
      have hc:=D'.cn
      refine D2.next O (by omega) (by omega) ?_
      have e1:mir p' (x - (neq + 1)) x x=p' x:=by unfold mir; rw [if_neg (by omega)]
      have e2:mir p' (x - (neq + 1)) x (x - 1)=p' (x - (neq + 1)):=by unfold mir; rw [if_pos (by omega)]; congr 1; omega
      rw [e1,e2]
      by_cases e:x - (neq + 1)=x - 1
      · rw [e]; exact hl
      · exact O.lt_le hl (D'.d3 (x - (neq + 1)) (x - 1) (m_ _) (by omega) (by omega)).1
    · rw [if_neg hneq]
      have e:neq=0:=by omega
      subst e
      exact bD ⟨0,p',rfl,B',by omega,by omega,D'.one.next O (by omega) (by omega) hl⟩
   | false =>
    simp only [B_,if_false]
    refine aT (zV C B' (by omega) (by omega) ?_)
    cases hg:blt (p' (x - 1)) (p' x) with
    | true =>
     simp only [if_true]
     exact bD (h x neq p' st' B' hax (by omega) hq D')
    | false =>
     simp only [B_,if_false]
     refine bD ⟨neq + 1,p',rfl,B',by omega,by omega,?_⟩
     have:=D'.next O (by omega) hl hg
     rwa [show x + 1 - (neq + 1 + 1)=x - (neq + 1) by omega]
 · rintro c st' ⟨neq,p',rfl,B',hax,hq,D'⟩
   exact h nrem neq p' st' B' hax (m_ _) hq D'
theorem ju {n nrem:Nat} {Q:Option Nat→IT→Prop} (O:Od blt) (C:Cm M A J a₀ kd blt) (B:SB a₀ kd p st) (h1:1≤n) (hnn:n + 1≤nrem) (hn:nrem≤a₀.size) (D:Dq blt p n (n + 1) a₀.size)
 (h:∀ m p' st',SB a₀ kd p' st'→1≤m→m≤nrem→Up blt p' m a₀.size→Q (a_ m) st'):wpJ M A E J (descPart n nrem) Q st:=by
 unfold descPart
 refine aT (qz fun s hs=>KH ⟨hs,?_⟩)
 refine aT (zX O C B (by omega) hnn hn D fun m neq p' st' B' hm1 hm2 hq D'=>?_)
 dsimp only
 by_cases hneq:neq > 0
 · rw [if_pos hneq]
   exact aT (sX (qA O C (B'.mirror (by omega)) (by omega) hm2 hn D'.turn h))
 · rw [if_neg hneq]
   have e:neq=0:=by omega
   subst e
   exact qA O C B' (by omega) hm2 hn D'.one h
theorem wf {nrem:Nat} {Q:Option Nat→IT→Prop} (O:Od blt) (C:Cm M A J a₀ kd blt) (B:SB a₀ kd p st) (h1:1≤nrem) (hn:nrem≤a₀.size) (hp:∀ k,k < a₀.size→p k=k)
 (h:∀ m p' st',SB a₀ kd p' st'→1≤m→m≤nrem→Up blt p' m a₀.size→Q (a_ m) st'):wpJ M A E J (countRun' 0 nrem) Q st:=by
 rw [countRun0_eq]
 refine aT (zW O C B (m_ 1) h1 hn ⟨fun a b hab hb=>by omega,fun a ha=>by rw [hp a (by omega)]; exact ha,fun a _ hN=>hp a hN⟩ fun n hn1 hn2 U hor=>?_)
 dsimp only
 by_cases hnn:n=nrem
 · rw [if_pos (by simpa using hnn)]
   exact bD (h n p st B hn1 hn2 U)
 · rw [if_neg (by simpa using hnn)]
   have hlt:blt (p n) (p (n - 1))=e_:=hor.resolve_left hnn
   by_cases hgt:n > 1
   · rw [if_pos hgt]
     refine aT (zV C B (by omega) (by omega) ?_)
     cases hr:blt (p 0) (p (n - 1)) with
     | true =>
      simp only [if_true]
      exact bD (h n p st B hn1 hn2 U)
     | false =>
      simp only [B_,if_false]
      have B':=B.mirror (i:=0) (j:=n) (by omega)
      have le0:∀ a,a < n→blt (p a) (p 0)=f_:=fun a ha=>by
       by_cases e:a=0
       · subst e; exact O.ir _
       · rcases U.so 0 a (by omega) ha with q | q
         · exact O.as q
         · exact q.1
      have leN:∀ a,a < n→blt (p (n - 1)) (p a)=f_:=fun a ha=>by
       by_cases e:a=n - 1
       · subst e; exact O.ir _
       · rcases U.so a (n - 1) (by omega) (by omega) with q | q
         · exact O.as q
         · exact q.1
      have eq:∀ a b,a < n→b < n→blt (p a) (p b)=f_:=fun a b ha hb=>O.le (leN b hb) (O.le hr (le0 a ha))
      have D:Dq blt (mir p 0 n) n (n + 1) a₀.size:=by
       have Dm:Dn blt (mir p 0 n) n a₀.size:=⟨fun a b hab hb=>by
        unfold mir
        rw [if_pos ⟨Gd _,hb⟩,if_pos ⟨Gd _,by omega⟩]
        refine .of_le (eq _ _ (by omega) (by omega)) ?_
        rw [hp _ (by omega),hp _ (by omega)]
        omega,fun a ha=>by
        unfold mir
        rw [if_pos ⟨Gd _,ha⟩,hp _ (by omega)]
        omega,fun a ha hN=>by
        unfold mir
        rw [if_neg (by omega),hp _ hN]⟩
       refine Dm.next O (by omega) (by omega) ?_
       have e1:mir p 0 n n=p n:=by unfold mir; rw [if_neg (by omega)]
       have e2:mir p 0 n (n - 1)=p 0:=by unfold mir; rw [if_pos (by omega)]; congr 1; omega
       rw [e1,e2]
       exact O.lt_le hlt (eq 0 (n - 1) (by omega) (by omega))
      exact aT (sX (ju O C B' (by omega) (by omega) hn D h))
   · rw [if_neg hgt]
     have hn1':n=1:=by omega
     subst hn1'
     refine ju O C B (by omega) (by omega) hn ?_ h
     have Dm:Dn blt p 1 a₀.size:=⟨fun a b hab hb=>by omega,U.lo,U.re⟩
     exact Dm.next O (by omega) (by omega) hlt
theorem CY {n ok:Nat} {Q:Bool→IT→Prop} (O:Od blt) (C:Cm M A J a₀ kd blt) (B:SB a₀ kd p st) (hok:1≤ok) (hon:ok≤n) (hn:n≤a₀.size) (U:Up blt p ok a₀.size)
 (h:∀ p' st',SB a₀ kd p' st'→Up blt p' n a₀.size→Q e_ st'):wpJ M A E J (binarySort' 0 n ok) Q st:=by
 rw [binarySort'_eq]
 simp only [Ik]
 rw [show max ok 1=ok by omega]
 refine aT (kW (gL (I:=fun k c st'=>∃ p',c=(ck,())∧ok≤k∧SB a₀ kd p' st'∧Up blt p' k a₀.size) (Q:=fun c st'=>∃ p',c=(ck,())∧SB a₀ kd p' st'∧Up blt p' n a₀.size) hon ?_ ?_ ⟨p,rfl,m_ _,B,U⟩) ?_)
 · rintro k c st' hk ⟨p',rfl,hok',B',U'⟩
   have hpk:p' k=k:=U'.re k (m_ _) (by omega)
   refine aT (kW (gL (I:=fun x c st''=>st''=st'∧∃ l r,c=(ck,l,r)∧l≤r∧r≤k∧r - l≤k - x∧(∀ i,i < l→blt (p' k) (p' i)=f_)∧(∀ i,r≤i→i < k→blt (p' k) (p' i)=e_))
    (Q:=fun c st''=>st''=st'∧∃ l r,c=(ck,l,r)∧l≤k∧(∀ i,i < l→blt (p' k) (p' i)=f_)∧(∀ i,l≤i→i < k→blt (p' k) (p' i)=e_)) (Gd k) ?_ ?_ ⟨rfl,0,k,rfl,by omega,by omega,by omega,fun i hi=>by omega,fun i h1 h2=>by omega⟩) ?_)
   · rintro x c st'' hx ⟨rfl,l,r,rfl,hlr,hrk,hm,hlo,hhi⟩
     dsimp only
     by_cases hge:l ≥ r
     · rw [if_pos hge]
       have:l=r:=by omega
       subst this
       exact bD ⟨rfl,l,l,rfl,hrk,hlo,hhi⟩
     · rw [if_neg hge]
       refine aT (zV C B' (by omega) (by omega) ?_)
       cases hless:blt (p' k) (p' ((l + r) / 2)) with
       | true =>
        simp only [if_true]
        refine bD ⟨rfl,l,(l + r) / 2,rfl,by omega,by omega,by omega,hlo,fun i i1 i2=>?_⟩
        by_cases e:i=(l + r) / 2
        · subst e; exact hless
        · rcases U'.so ((l + r) / 2) i (by omega) i2 with q | q
          · exact O.tr _ _ _ hless q
          · exact O.lt_le hless q.1
       | false =>
        simp only [B_,if_false]
        refine bD ⟨rfl,(l + r) / 2 + 1,r,rfl,by omega,by omega,by omega,fun i i1=>?_,hhi⟩
        by_cases e:i=(l + r) / 2
        · subst e; exact hless
        · rcases U'.so i ((l + r) / 2) (by omega) (by omega) with q | q
          · exact O.le (O.as q) hless
          · exact O.le q.1 hless
   · rintro c st'' ⟨rfl,l,r,rfl,hlr,hrk,hm,hlo,hhi⟩
     have:l=r:=by omega
     subst this
     exact ⟨rfl,l,l,rfl,hrk,hlo,hhi⟩
   · rintro c st'' ⟨rfl,l,r,rfl,hlk,hlo,hhi⟩
     show wpJ M A E J (do moveDown' k l; pure (K4 (ck,()))) _ _
     rw [moveDown'_eq]
     refine aT (ig (bD ⟨bub p' k l,rfl,by omega,B'.bubble (by omega) hlk,?_⟩))
     refine ⟨fun a b hab hb=>?_,fun a ha=>?_,fun a ha hN=>?_⟩
     · have c1:bub p' k l l=p' k:=by unfold bub; rw [if_pos rfl]
       have c2:∀ x,l < x→x≤k→bub p' k l x=p' (x - 1):=fun x h1 h2=>by unfold bub; rw [if_neg (by omega),if_pos ⟨h1,h2⟩]
       have c3:∀ x,x < l→bub p' k l x=p' x:=fun x h1=>by unfold bub; rw [if_neg (by omega),if_neg (by omega)]
       by_cases hbl:b=l
       · subst hbl
         rw [c1,c3 a hab]
         exact .of_le (hlo a (by omega)) (by rw [hpk]; exact U'.lo a (by omega))
       · by_cases hbg:l < b
         · rw [c2 b hbg (by omega)]
           by_cases hal:a=l
           · subst hal
             rw [c1]
             exact .inl (hhi (b - 1) (by omega) (by omega))
           · by_cases hag:l < a
             · rw [c2 a hag (by omega)]
               exact U'.so (a - 1) (b - 1) (by omega) (by omega)
             · rw [c3 a (by omega)]
               exact U'.so a (b - 1) (by omega) (by omega)
         · rw [c3 a (by omega),c3 b (by omega)]
           exact U'.so a b hab (by omega)
     · unfold bub
       split
       · rw [hpk]; omega
       · split
         · have:=U'.lo (a - 1) (by omega); omega
         · have:=U'.lo a (by omega); omega
     · unfold bub
       rw [if_neg (by omega),if_neg (by omega)]
       exact U'.re a (by omega) hN
 · rintro c st' ⟨p',rfl,_,B',U'⟩
   exact ⟨p',rfl,B',U'⟩
 · rintro c st' ⟨p',rfl,B',U'⟩
   exact bD (h p' st' B' U')
end
section
variable {M:Kr} {A:w_} {E:d_→ge→Prop} {J:ge→Prop} {a₀:Array Md} {kd:Lo} {blt:Nat→Nat→Bool} {p:Nat→Nat} {st:IT}
structure CZ (a₀:Array Md) (blt:Nat→Nat→Bool) (p:Nat→Nat) (xs:Array Md):Prop where
 sz:xs.size=a₀.size
 at':∀ k,k < a₀.size→xs[k]?=a₀[p k]?
 lt:∀ k,k < a₀.size→p k < a₀.size
 inj:∀ a b,a < a₀.size→b < a₀.size→p a=p b→a=b
 so:∀ a b,a < b→b < a₀.size→Lex blt (p a) (p b)
def Dne (a₀:Array Md) (blt:Nat→Nat→Bool) (st:IT):Prop:=∃ p,CZ a₀ blt p (Jv st)∧Mc st=ck∧Kw st=#[(0,a₀.size,0)]
theorem SB.done (B:SB a₀ kd p st) (U:Up blt p a₀.size a₀.size):Dne a₀ blt (setPending st ((Kw st).push (0,a₀.size,0))) :=
 ⟨p,⟨B.sz,B.at',B.lt,B.inj,U.so⟩,B.failed,by show (Kw st).push _=_; rw [B.pend]; rfl⟩
theorem zY {Q:Unit→IT→Prop} (O:Od blt) (C:Cm M A J a₀ kd blt) (B:SB a₀ kd p st) (hp:∀ k,k < a₀.size→p k=k) (h2:2≤a₀.size) (h64:a₀.size < 64)
 (h:∀ p' st',CZ a₀ blt p' (Jv st')→Mc st'=ck→Q () st'):wpJ M A E J sortRuns' Q st:=by
 rw [sortRuns'_eq]
 refine aT (oo ?_)
 dsimp only
 have hmr:minRun' a₀.size a₀.size 0=a₀.size:=by
  obtain ⟨f,hf⟩:∃ f,a₀.size=f + 1:=⟨a₀.size - 1,by omega⟩
  have:minRun' (f + 1) a₀.size 0=a₀.size:=by rw [minRun'_succ,if_pos h64]; rfl
  rwa [← hf] at this
 simp only [B.sz,hmr]
 refine aT (kW (gL (I:=fun x c st'=>(x=0∧c=(ck,0)∧SB a₀ kd p st')∨(1≤x∧c=(ck,a₀.size)∧Dne a₀ blt st')) (Q:=fun c st'=>c=(ck,a₀.size)∧Dne a₀ blt st') (Gd _) ?_ ?_ (.inl ⟨rfl,rfl,B⟩)) ?_)
 · rintro x c st' hx (⟨rfl,rfl,B'⟩ | ⟨hx1,rfl,D⟩)
   · dsimp only
     rw [if_neg (by omega)]
     simp only [Nat.sub_zero,Nat.min_self,Ik]
     refine aT (wf O C B' (by omega) (m_ _) hp fun m p2 st2 B2 hm1 hm2 U2=>?_)
     dsimp only
     by_cases hlt:m < a₀.size
     · rw [if_pos hlt]
       refine aT (qz fun s hs=>KH ⟨hs,?_⟩)
       refine aT (CY O C B2 hm1 hm2 (m_ _) U2 fun p3 st3 B3 U3=>?_)
       simp only [Iw,B_,if_false]
       refine aT (oo ?_)
       have hb:(Kw st3).back?=ck:=by rw [B3.pend]; rfl
       rw [hb]
       dsimp only
       exact aT (ig (bD (.inr ⟨by omega,rfl,B3.done U3⟩)))
     · rw [if_neg hlt]
       have hm:m=a₀.size:=by omega
       subst hm
       refine aT (oo ?_)
       have hb:(Kw st2).back?=ck:=by rw [B2.pend]; rfl
       rw [hb]
       dsimp only
       exact aT (ig (bD (.inr ⟨by omega,rfl,B2.done U2⟩)))
   · dsimp only
     rw [if_pos (m_ _)]
     exact bD ⟨rfl,D⟩
 · rintro c st' (⟨hx,_,_⟩ | ⟨_,hc,D⟩)
   · omega
   · exact ⟨hc,D⟩
 · rintro c st' ⟨rfl,pd,D1,D2,D3⟩
   dsimp only
   refine aT (kW (gL (I:=fun _ c st''=>st''=st'∧c=(ck,())) (Q:=fun c st''=>st''=st'∧c=(ck,())) (Gd _) ?_ (fun _ _ hh=>hh) ⟨rfl,rfl⟩) ?_)
   · rintro x c st'' _ ⟨rfl,rfl⟩
     refine aT (oo ?_)
     rw [if_pos (by rw [D3]; exact m_ 1)]
     exact bD ⟨rfl,rfl⟩
   · rintro c st'' ⟨rfl,rfl⟩
     exact bD (h pd _ D1 D2)
end
section
variable {prog:n_} {w:y_} {A:w_} {E:d_→ge→Prop} {s:ge} {blt:Nat→Nat→Bool} {Kd:Lo→Prop}
def JT (s:ge) (H:FF):ge→Prop:=fun s'=>∃ tk,s.toks≤tk∧s'={ s with heap:=H,toks:=tk }
end
end TS
namespace TS
open PySem PySem.Spec PyProof.Rows L2
def zZ (h:FF) (A:w_) (z:Bool) (p q:d_) (e l:Bool):Prop:=∀ (prog:n_) (w:y_) (E:d_→ge→Prop) (s:ge),s.heap=h →
 (∀ Q:Bool→ge→Prop,Q e s→u_ (x_ prog w) A (eqBool p q) Q E s)∧(∀ (b:Bool) (Q:Bool→ge→Prop),(b=e_→z=e_)→Q l s→u_ (x_ prog w) A (oneLt' b p q) Q E s)
inductive wg (h:FF) (A:w_):Bool→List (d_×d_)→List (Bool×Bool)→Prop
 | nil {z:Bool}:wg h A z [] []
 | cons {z:Bool} {p q:d_} {e l:Bool} {ps:List (d_×d_)} {rs:List (Bool×Bool)}:zZ h A z p q e l→wg h A f_ ps rs→wg h A z ((p,q) :: ps) ((e,l) :: rs)
section
variable {prog:n_} {w:y_} {A:w_} {E:d_→ge→Prop} {s:ge}
inductive qB (h:FF):List d_→List d_→Prop
 | nil:qB h [] []
 | cons {a:i_} {xs:Array d_} {f:d_} {vs fs:List d_}:h.IsTuple a xs→xs[0]?=a_ f→qB h vs fs→qB h (.ref a :: vs) (f :: fs)
end
def z0 (p q:d_) (e l:Bool):Prop:=∀ (prog:n_) (w:y_) (A:w_) (E:d_→ge→Prop) (s:ge),
 (∀ Q:Bool→ge→Prop,Q e s→u_ (x_ prog w) A (eqBool p q) Q E s)∧(∀ Q:d_→ge→Prop,Q (.bool l) s→u_ (x_ prog w) A (richCompare .Lt p q) Q E s)
inductive qC:List (d_×d_)→List (Bool×Bool)→Prop
 | nil:qC [] []
 | cons {p q:d_} {e l:Bool} {ps:List (d_×d_)} {rs:List (Bool×Bool)}:z0 p q e l→qC ps rs→qC ((p,q) :: ps) ((e,l) :: rs)
section
open PySem.SeqAt
open PySem.AutoSeq1 (wpAny_loadPart')
open PySem.MeetsSeq PySem.MeetsSeq2 PySem.MeetsSeq3
end
end TS
namespace TS
open PySem PyProof.Rows FD
theorem qD {R:Nat→Nat→Prop} (as:∀ a b,R a b→R b a→False):∀ {l m:List Nat},l.Perm m→l.Pairwise R→m.Pairwise R→l=m
 | [],m,hp,_,_=>hp.nil_eq
 | x :: l,[],hp,_,_=>by simpa using hp.length_eq
 | x :: l,y :: m,hp,h1,h2=>by
  rw [GX] at h1 h2
  have e:x=y:=by
   rcases FB.mp (hp.mem_iff.mp (p_ (a:=x))) with e | hx
   · exact e
   · rcases FB.mp (hp.mem_iff.mpr (p_ (a:=y))) with e | hy
     · exact e.symm
     · exact (as _ _ (h1.1 y hy) (h2.1 x hx)).elim
  subst e
  rw [qD as hp.cons_inv h1.2 h2.2]
theorem Lex.as {blt:Nat→Nat→Bool} (O:Od blt) {a b:Nat} (h:Lex blt a b) (h':Lex blt b a):False:=by
 have:=h.tr O h'
 rcases this with q | q
 · rw [O.ir] at q; cases q
 · omega
theorem qE {blt:Nat→Nat→Bool} (O:Od blt) (x:Nat):∀ l:List Nat,(∀ y∈l,x < y)→l.Pairwise (Lex blt)→(jU (fun i j=>!blt j i) x l).Pairwise (Lex blt)
 | [],_,_=>by simp [jU]
 | y :: l,hx,h=>by
  unfold jU
  rw [GX] at h
  split
  · rename_i hc
    have hxy:Lex blt x y:=.of_le (by simpa using hc) (hx y p_)
    rw [GX,GX]
    refine ⟨fun z hz=>?_,h⟩
    rcases FB.mp hz with rfl | hz
    · exact hxy
    · exact hxy.tr O (h.1 z hz)
  · rename_i hc
    rw [GX]
    refine ⟨fun z hz=>?_,qE O x l (fun z hz=>hx z (on _ hz)) h.2⟩
    rcases FB.mp ((iH _ x l).mem_iff.mp hz) with rfl | hz
    · exact .inl (by simpa using hc)
    · exact h.1 z hz
theorem nq {blt:Nat→Nat→Bool} (O:Od blt):∀ l:List Nat,l.Pairwise (· < ·)→(dv (fun i j=>!blt j i) l).Pairwise (Lex blt)
 | [],_=>.nil
 | x :: l,h=>by
  rw [GX] at h
  exact qE O x _ (fun y hy=>h.1 y ((cX _ l).mem_iff.mp hy)) (nq O l h.2)
theorem qF {α β:Type} {le:α→α→Bool} {le':β→β→Bool} (f:α→β) (x:α):∀ l:List α,(∀ y∈l,le x y=le' (f x) (f y))→(jU le x l).map f=jU le' (f x) (l.map f)
 | [],_=>rfl
 | y :: l,h=>by
  have e:=h y p_
  simp only [jU,FV]
  rw [← e]
  split
  · rfl
  · rw [FV,qF f x l fun z hz=>h z (on _ hz)]
theorem jV {α β:Type} {le:α→α→Bool} {le':β→β→Bool} (f:α→β):∀ l:List α,(∀ x∈l,∀ y∈l,le x y=le' (f x) (f y))→(dv le l).map f=dv le' (l.map f)
 | [],_=>rfl
 | x :: l,h=>by
  simp only [dv,FV]
  rw [qF (le':=le') f x _ fun y hy=>h x p_ y (on _ ((cX _ l).mem_iff.mp hy)),jV f l fun a ha b hb=>h a (on _ ha) b (on _ hb)]
theorem iI:∀ (l m:List Nat),l.Nodup→(∀ x∈l,x∈m)→m.length≤l.length→l.Perm m
 | [],m,_,_,h=>by
  have:m=[]:=HH.mp (by simpa using h)
  subst this
  exact .refl _
 | x :: l,m,nd,hs,h=>by
  rw [HW] at nd
  obtain ⟨m1,m2,rfl⟩:=List.append_of_mem (hs x p_)
  refine ((iI l (m1 ++ m2) nd.2 (fun y hy=>?_) (by simp at h ⊢; omega)).cons x).trans List.perm_middle.symm
  have:=hs y (on _ hy)
  simp only [Ga,FB] at this ⊢
  rcases this with q | rfl | q
  · exact .inl q
  · exact (nd.1 hy).elim
  · exact .inr q
theorem lV {n:Nat} {p:Nat→Nat} (hlt:∀ k,k < n→p k < n) (inj:∀ a b,a < n→b < n→p a=p b→a=b):((pi n).map p).Perm (pi n):=by
 have nd:((pi n).map p).Nodup:=by
  rw [List.nodup_iff_pairwise_ne,Mh]
  refine (List.nodup_range (n:=n)).imp_of_mem fun {a b} ha hb hab e=>hab (inj a b (by simpa using ha) (by simpa using hb) e)
 have sub:∀ x∈(pi n).map p,x∈pi n:=fun x hx=>by
  obtain ⟨k,hk,rfl⟩:=G0.mp hx
  simpa using hlt k (by simpa using hk)
 exact iI _ _ nd sub (by simp)
theorem kX {blt:Nat→Nat→Bool} (O:Od blt) {n:Nat} {p:Nat→Nat} (hlt:∀ k,k < n→p k < n) (inj:∀ a b,a < n→b < n→p a=p b→a=b) (so:∀ a b,a < b→b < n→Lex blt (p a) (p b)) :
 (pi n).map p=dv (fun i j=>!blt j i) (pi n):=by
 refine qD (fun a b h h'=>h.as O h') ((lV hlt inj).trans (cX _ _).symm) ?_ (nq O _ KZ)
 rw [Mh]
 exact (KZ (n:=n)).imp_of_mem fun {a b} ha hb hab=>so a b hab (by simpa using hb)
section
variable {prog:n_} {w:y_} {A:w_} {E:d_→ge→Prop} {s:ge}
end
section
variable {prog:n_} {w:y_} {A:w_} {E:d_→ge→Prop} {s:ge} {blt:Nat→Nat→Bool}
end
end TS
namespace FD
open PySem PySem.Spec PyProof.Rows L2 TS
section
variable {X:Cx} {pins:List (i_×Obj)} {σ:L2.St} {H:Hp} {s:ge}
end
section
variable {X:Cx} {pins:List (i_×Obj)} {σ:L2.St} {H:Hp} {s:ge}
theorem dJ {K:c_}:∀ {ds:List Dv} {ws:List V},Reps K H ds ws→ds.length=ws.length
 | [],ws,r=>by cases (show ws=[] from r); rfl
 | d :: ds,ws,r=>by
  obtain ⟨u,ws1,rfl,r1,r2⟩:∃ v ws1,ws=v :: ws1∧Rep K H d v∧Reps K H ds ws1:=r
  simp [dJ r2]
theorem oq {K:c_} {ds:List Dv} {ws:List V} (hl:ds.length=ws.length) (h:∀ (i:Nat) (d:Dv) (v:V),ds[i]?=a_ d→ws[i]?=a_ v→Rep K H d v):Reps K H ds ws:=by
 induction ds generalizing ws with
 | nil=>cases ws with
  | nil=>exact rfl
  | cons _ _=>simp at hl
 | cons d ds ih=>cases ws with
  | nil=>simp at hl
  | cons w ws=>exact ⟨w,ws,rfl,h 0 d w rfl rfl,ih (by simpa using hl) fun i d' v e1 e2=>h (i + 1) d' v (by simpa using e1) (by simpa using e2)⟩
theorem lW {K:c_}:∀ {ds:List Dv} {ws:List V},Reps K H ds ws→∀ (i:Nat) (d:Dv) (v:V),ds[i]?=a_ d→ws[i]?=a_ v→Rep K H d v
 | [],_,_,i,d,v,h,_=>by simp at h
 | d0 :: ds,ws,r,i,d,v,h,h'=>by
  obtain ⟨u,ws1,rfl,r1,r2⟩:∃ v ws1,ws=v :: ws1∧Rep K H d0 v∧Reps K H ds ws1:=r
  cases i with
  | zero=>simp at h h'; subst h; subst h'; exact r1
  | succ i=>exact lW r2 i d v (by simpa using h) (by simpa using h')
theorem ot {ws:List V} {its:List d_} (hl:ws.length=its.length) (h:∀ (i:Nat) (v:V) (u:d_),ws[i]?=a_ v→its[i]?=a_ u→RelV v u):Vals ws its:=by
 induction ws generalizing its with
 | nil=>cases its with
  | nil=>exact .nil
  | cons _ _=>simp at hl
 | cons d ds ih=>cases its with
  | nil=>simp at hl
  | cons w ws=>exact .cons (h 0 d w rfl rfl) (ih (by simpa using hl) fun i d' v e1 e2=>h (i + 1) d' v (by simpa using e1) (by simpa using e2))
end
section
variable {X:Cx} {p pos:Pos} {e:C_} {es:List C_} {ga:FnA}
end
end FD
namespace FD
open PySem PySem.Spec PyProof.Rows L2 PySem.W
section
variable {X:Cx} {hx:C_} {body:List GT} {f:FnS} {g:FnE} {J n:Str} {CJ:i_} {np rp2 hpos pos:Pos}
end
end FD
namespace FD
open PySem PySem.Spec PyProof.Rows L2 TS
section
variable {X:Cx} {pins:List (i_×Obj)} {σ:L2.St} {H:Hp} {s:ge} {k:Nat} {f:i_} {fd:F8} {ps:List Str} {F:List Dv→Option (Rs Dv)} {A':w_} {E:d_→ge→Prop}
end
end FD
namespace TS
open PySem PyProof.Rows FD
section
variable {prog:n_} {w:y_} {A:w_} {E:d_→ge→Prop} {s:ge} {blt:Nat→Nat→Bool}
theorem uI {a kS:i_} {e1 c:Nat} {its:Array d_} {st:IT} {P:Mx→ge→Prop} (hk:s.heap.get? kS=a_ (Gw "list" its c)) (ha:s.heap.get? a=a_ (Gw "list" #[] e1)) (hne:kS≠a) (hz:its.size≤sizeLine) (hz2:(Jv st).size≤sizeLine) (hf:Mc st=ck)
 (h:P (.done (.ret .none)) { s with heap:=(s.heap.update kS (Gc fun _=>#[])).update a (Gc fun _=>(Jv st).map (·.2)) }):u_ (x_ prog w) A (ksk_tail a f_ e1 (.ref kS) st) P E s:=by
 unfold ksk_tail
 refine g_ (Jj hk rfl ?_ hz (Gd _))
 refine g_ (wpAny_letGo ?_)
 have ha2:(s.heap.update kS (Gc fun _=>#[])).get? a=a_ (Gw "list" #[] e1):=by
  rw [GS _ _ _ _ hne.symm]; exact ha
 refine g_ (seqEpoch_at (s:={ s with heap:=s.heap.update kS (Gc fun _=>#[]) }) ha2 rfl ?_)
 refine g_ (Jj (s:={ s with heap:=s.heap.update kS (Gc fun _=>#[]) }) ha2 rfl ?_ (Gd _) (by simp only [B_,if_false,I_]; omega))
 rw [hf]
 simp only [bne_self_eq_false,B_,if_false]
 exact j_ h
end
end TS
namespace FD
open PySem PySem.Spec PyProof.Rows L2 TS
section
variable {X:Cx} {pins:List (i_×Obj)} {σ:L2.St} {H:Hp} {s:ge} {k:Nat} {f:i_} {fd:F8} {ps:List Str} {F:List Dv→Option (Rs Dv)} {A':w_} {E:d_→ge→Prop}
theorem kY:∀ {ds:List Dv} (n:Nat),imms ds=e_→imms (ds.take n)=e_
 | [],n,_=>by simp [imms]
 | d :: ds,0,_=>by simp [imms]
 | d :: ds,n + 1,h=>by
  simp only [imms,l_] at h
  simp only [List.take_succ_cons,imms,l_]
  exact ⟨h.1,kY n h.2⟩
end
section
variable {X:Cx} {pins:List (i_×Obj)} {σ:L2.St} {H:Hp} {s:ge} {k:Nat} {f:i_} {fd:F8} {ps:List Str} {F:List Dv→Option (Rs Dv)} {A':w_} {E:d_→ge→Prop}
theorem lX {h:FF} {a:i_} {o:Obj} (e:h.get? a=a_ o):cz [a] h=[(a,o)]:=by simp [cz,e]
theorem lY {M:Kr} {A:w_} {l:i_} {vs:List d_} {o:Obj} {n:Nat} {c:String} {Q:List d_→ge→Prop} {prog:n_} {w:y_} (ho:s.heap.get? l=a_ o) (hc:o.cls=.type c) (hd:o.data=.seq vs.toArray n) (h2:(r_ c == r_ "list" || r_ c == r_ "tuple")=e_)
 (h:∀ h',(∀ b o,s.heap.get? b=a_ o→h'.get? b=a_ o)→s.heap.objs.size < h'.objs.size→Q vs { s with heap:=h' }) (hsz:vs.length≤sizeLine):u_ (x_ prog w) A (collect (.ref l)) Q E s:=by
 unfold collect
 refine g_ (wpAny_runValue (Hj entry_proto_collect' ?_))
 show u_ _ _ (do again (.builtin "list.__iadd__" ⟨[← newList [],.ref l],[]⟩)) _ _ s
 refine g_ (LD (j_ ⟨JN _ (by decide +kernel),Hj entry_list_iadd' ?_⟩))
 show u_ _ _ (JC (.ref s.heap.objs.size) (.ref l) (.ref s.heap.objs.size)) _ _ { s with heap:=s.heap.push (Gw "list" #[] 0) }
 unfold JC
 have ho':(s.heap.push (Gw "list" #[] 0)).get? l=a_ o:=k_ _ ho
 refine g_ (Jy (T:=c) ⟨o,ho',hc⟩ ?_)
 rw [if_pos (by rw [Bool.or_assoc,h2]; simp)]
 refine g_ (KT ho' hd ?_)
 refine g_ (KT (xs:=#[]) (n:=0) (z_ _ rfl) rfl ?_)
 rw [if_neg (by simp)]
 refine g_ (Jj (xs:=#[]) (n:=0) (z_ _ rfl) rfl ?_ (Gd _) (by simp only [Ja,uk,List.length_nil]; show 0 + vs.length≤_; omega))
 refine j_ ?_
 show u_ (x_ prog w) A (do
  let o ← load s.heap.objs.size
  match o.data with
  | .seq xs _=>pure xs.toList
  | _=>Lb "internal:collect") Q E { s with heap:=(s.heap.push (Gw "list" #[] 0)).update s.heap.objs.size (Gc (· ++ vs.toArray)) }
 refine g_ (wpAny_load (IB (z_ _ rfl) _) ?_)
 show u_ _ _ (pure ((#[]:Array d_) ++ vs.toArray).toList) Q E _
 rw [show ((#[]:Array d_) ++ vs.toArray).toList=vs by simp]
 refine j_ (h _ (fun b o' q=>?_) ?_)
 · have:=v_ q
   rw [GS _ _ _ _ (FM this),Heap.get?_push_ne _ _ _ (FM this)]
   exact q
 · rw [Mw,size_push']; exact Ky _
end
section
variable {X:Cx} {pins:List (i_×Obj)} {σ:L2.St} {H:Hp} {s:ge} {k:Nat} {f:i_} {fd:F8} {ps:List Str} {F:List Dv→Option (Rs Dv)} {E:d_→ge→Prop}
end
section
variable {X:Cx} {k' n:Nat} {ps:List Str} {x:Str} {p p2 kp pos:Pos} {e:C_} {F:List Dv→Option (Rs Dv)} {g:FnA}
end
end FD
namespace FD
open PySem PySem.Spec PyProof.Rows L2
section
variable {X:Cx} {p pos:Pos} {e:C_} {es:List C_} {ga:FnA}
end
end FD
namespace TS
open PySem PySem.Spec PyProof.Rows L2 FD
def okF (ks:List Nat):Bool:=ks.all fun k=>k != 0 && t_ (k < 4)
end TS
namespace FD
open PySem PySem.Spec PyProof.Rows L2 TS
section
variable {X:Cx}
end
end FD
namespace FD
open PySem PySem.Spec PyProof.Rows L2
def ai (X:Cx) (N:List Str) (scope:GK) (C:i_) (s:ge) (H:Hp) (fp:List i_):Cx :=
 { X with N:=N,s₀:=s,H₀:=H,env:=L5 scope (F5 (C + 1) scope.names (gH scope.names X.env [])) C X.env,outer:=X.stack,stack:=X.stack,ex:=fp,fn:=fun y=>scope.names.lookup y == a_ .cell,pn:=[],xe:=fun _ _=>False }
structure gM (osc scope:GK) (cs:List (Str×Nat)) (N:List Str):Prop where
 kind:scope.kind=.function
 one:∀ y∈scope.names,y.2=.cell→scope.names.lookup y.1=a_ .cell
 names:∀ y∈scope.names,y.2=.local→scope.names.lookup y.1=a_ .local
 free:∀ y∈scope.names,y.2=.free→osc.names.lookup y.1=a_ .cell∨osc.names.lookup y.1=a_ .free
 caps:∀ c∈cs,N[c.2]?=a_ c.1∧scope.names.lookup c.1=a_ .free
theorem gw:∀ (names:List (Str×HF)) (lo:Nat) (acc:List (Str×i_)),F5 lo names acc=F5 lo names [] ++ acc
 | [],_,_=>rfl
 | (n,k) :: r,lo,acc=>by
  unfold F5
  split
  · rw [gw r (lo + 1) ((n,lo) :: acc),gw r (lo + 1) [(n,lo)],Ia]; rfl
  · exact gw r lo acc
theorem qG:∀ {names:List (Str×HF)} {lo:Nat} {n:Str} {c:i_},(n,c)∈F5 lo names []→(n,GZ)∈names
 | [],_,_,_,h=>(nomatch h)
 | (m,k) :: r,lo,n,c,h=>by
  unfold F5 at h
  split at h
  · rename_i hk
    rw [gw] at h
    rcases Ga.mp h with q | q
    · exact on _ (qG q)
    · have e:n=m:=by simp at q; exact q.1
      have ek:k=.cell:=by simpa using hk
      subst e ek
      exact p_
  · exact on _ (qG h)
theorem nr:∀ {names:List (Str×HF)} {lo:Nat} {n:Str},(n,GZ)∈names→((F5 lo names []).lookup n).isSome=e_
 | [],_,_,h=>(nomatch h)
 | (m,k) :: r,lo,n,h=>by
  unfold F5
  rcases FB.mp h with e | q
  · cases e
    rw [if_pos (by decide),gw,Hd]
    cases hl:(F5 (lo + 1) r []).lookup m with
    | some _=>rfl
    | none=>simp
  · split
    · rw [gw,Hd]
      have:=nr (lo:=lo + 1) q
      cases hl:(F5 (lo + 1) r []).lookup n with
      | some _=>rfl
      | none=>rw [hl] at this; cases this
    · exact nr q
theorem wj {M:Kr} {A:w_} {E:d_→ge→Prop} {s:ge} {scope:GK} {globals:i_} {cl:List (Str×i_)} {qual:Str} {env:Env} {Q:Env→ge→Prop} (hk:scope.kind=.function)
 (hQ:Q (newEnv scope s.heap.objs.size globals (F5 (s.heap.objs.size + 1) scope.names cl) qual ck .none (a_ env) builtinsNs) { s with heap:=pushCells (s.heap.push { cls:=.type "dict",data:=.dict #[] }) scope.names }) :
 u_ M A (Lc scope globals cl [] qual ck .none (a_ env)) Q E s:=by
 simp only [Lc,Option.isSome_some,if_true]
 refine g_ (wpAny_alloc ?_)
 refine g_ (wpAny_layCells _ (fun name kind cells=>by cases hkc:kind == GZ <;> simp [hkc]) _ _ _ _ ?_)
 rw [show ({ s with heap:=s.heap.push { cls:=.type "dict",data:=.dict #[] } }:ge).heap.objs.size=s.heap.objs.size + 1 from G6 ..]
 refine g_ ?_
 rw [List.forIn_nil]
 exact j_ (j_ hQ)
theorem qH {X:Cx} {pins:List (i_×Obj)} {σ:L2.St} {H:Hp} {s:ge} {scope:GK} {ns:List Str} {cs:List (Str×Nat)} {fp:List i_} {h₁:FF} {C:i_} {t':Nat} (ok:gM X.env.scope scope cs X.N) (I:Inv X pins σ H s) (hfp:∀ b∈fp,mG X pins H b) (hlt:∀ b∈fp,b < s.heap.objs.size)
 (hC:s.heap.objs.size≤C) (hns:h₁.Ns C fun _=>ck) (old:∀ b o,s.heap.get? b=a_ o→h₁.get? b=a_ o) (hck:CellsOk h₁ (C + 1) (F5 (C + 1) scope.names [])) :
 Inv (ai X (ns ++ cs.map (·.1)) scope C s H fp) [] (kA ns.length cs σ) H { s with heap:=h₁,toks:=t' }:=by
 have cl1:∀ n c,(gH scope.names X.env []).lookup n=a_ c→X.env.cells.lookup n=a_ c:=fun n c e=>by
  rcases ji _ _ e with q | ⟨q1,q2⟩
  · simp at q
  · obtain ⟨c',e'⟩:=I.ok.has n (ok.free _ q1 rfl)
    rw [e'] at q2
    rw [e',q2] <;> rfl
 have lk:∀ n c,(ai X (ns ++ cs.map (·.1)) scope C s H fp).env.cells.lookup n=a_ c→(n,c)∈F5 (C + 1) scope.names []∨((n,GZ) ∉ scope.names∧(gH scope.names X.env []).lookup n=a_ c):=fun n c e=>by
  have e':(F5 (C + 1) scope.names (gH scope.names X.env [])).lookup n=a_ c:=e
  rw [gw,Hd] at e'
  cases hl:(F5 (C + 1) scope.names []).lookup n with
  | some c'=>rw [hl] at e'; cases e'; exact .inl (mem_of_lookup hl)
  | none =>
   rw [hl] at e'
   refine .inr ⟨fun hm=>?_,e'⟩
   have:=nr (lo:=C + 1) hm
   rw [hl] at this
   cases this
 have lk2:∀ n c,(n,GZ) ∉ scope.names→(gH scope.names X.env []).lookup n=a_ c→(ai X (ns ++ cs.map (·.1)) scope C s H fp).env.cells.lookup n=a_ c:=fun n c hm e=>by
  show (F5 (C + 1) scope.names (gH scope.names X.env [])).lookup n=a_ c
  rw [gw,Hd]
  cases hl:(F5 (C + 1) scope.names []).lookup n with
  | some c'=>exact absurd (qG (mem_of_lookup hl)) hm
  | none=>exact e
 have big:∀ n c,(n,c)∈F5 (C + 1) scope.names []→s.heap.objs.size < c:=fun n c hm=>D_ (Nat.lt_succ_of_le hC) (hck.empty n c hm).2
 have low:∀ n c,(gH scope.names X.env []).lookup n=a_ c→c < s.heap.objs.size:=fun n c e=>by
  obtain ⟨v,o,ho,_⟩:=I.cell n c (cl1 n c e)
  exact v_ ho
 have inj:∀ y z c,(ai X (ns ++ cs.map (·.1)) scope C s H fp).env.cells.lookup y=a_ c→(ai X (ns ++ cs.map (·.1)) scope C s H fp).env.cells.lookup z=a_ c→y=z:=fun y z c e1 e2=>by
  rcases lk y c e1 with p | ⟨_,p⟩ <;> rcases lk z c e2 with q | ⟨_,q⟩
  · exact name_of_addr hck.apart p q
  · exact absurd (Mg (big y c p) (low z c q)) (GO _)
  · exact absurd (Mg (big z c q) (low y c p)) (GO _)
  · exact I.ok.inj y z c (cl1 y c p) (cl1 z c q)
 refine ⟨⟨I.ok.mod,ok.kind,I.ok.glob,I.ok.blt,hC,inj,fun y hy=>?_,fun y c hfn e=>?_,I.ok.hd,I.ok.frames,.inl rfl,fun b hb=>⟨fun z=>?_,fun y c e=>?_⟩,I.bs,F6 I.ok.bsz I.sz,fun b o e hb=>?_,fun b hb z=>?_,I.stack,I.stkFree⟩,
  rfl,I.bare,Un.kept old,⟨_,hns,fun i y v h1 h2 h3=>?_⟩,fun y c e=>?_,I.hok.fresh hC,fun y c e=>?_,fun p hp=>absurd (show p∈([]:List (i_×Obj)) from hp) (by simp),I.hok.kept old,by simp [kA,ai]⟩
 · have hm:(y,GZ)∈scope.names∨(y,GN)∈scope.names:=by
    rcases hy with hy | hy
    · rcases g8 hy with q | ⟨_,q⟩
      · exact .inl q
      · exact .inr q
    · rcases g8 hy with q | ⟨q,_⟩
      · exact .inr q
      · cases q
   by_cases hcl:(y,GZ)∈scope.names
   · obtain ⟨c,hc'⟩:=Hw.mp (nr (lo:=C + 1) hcl)
     refine ⟨c,?_⟩
     show (F5 (C + 1) scope.names (gH scope.names X.env [])).lookup y=a_ c
     rw [gw,Hd,hc']
     rfl
   · obtain ⟨c,hc'⟩:=Hw.mp (jJ (env:=X.env) scope.names [] (hm.resolve_left hcl))
     exact ⟨c,lk2 y c hcl hc'⟩
 · have hfn':scope.names.lookup y=a_ .cell:=by simpa [ai] using hfn
   rcases lk y c e with p | ⟨p,_⟩
   · exact Il (big y c p)
   · exact absurd (du hfn') p
 · have:=hlt b hb
   rw [z] at this
   exact absurd (D_ this hC) (GO _)
 · rcases lk y c e with p | ⟨_,p⟩
   · exact fun z=>absurd (Mg (big y c p) (z ▸ hlt b hb)) (GO _)
   · exact (hfp b hb).2.2.2.2.1 y c (cl1 y c p)
 · rcases (hfp b hb).2.2.2.1 with z | z
   · exact I.ok.noex b o e z
   · exact absurd (D_ (v_ e) (F6 I.ok.bsz z)) (GO _)
 · rcases FB.mp (I.stkSub b z) with q | q
   · exact (hfp b hb).2.1 q
   · exact (hfp b hb).2.2.1 q
 · obtain ⟨k,rfl,h4⟩:=kB h2
   have h1':(ns ++ cs.map (·.1))[ns.length + k]?=a_ y:=h1
   rw [GR (by simp)] at h1'
   simp only [Kz] at h1'
   rw [FY] at h1'
   cases hc:cs[k]? with
   | none=>rw [hc] at h1'; simp at h1'
   | some c =>
    rw [hc] at h1'
    have ey:c.1=y:=by simpa using h1'
    subst ey
    rw [FY,hc] at h4
    simp only [HU,IV] at h4
    have h2':σ[c.2]?=a_ (a_ v):=by
     cases q:σ[c.2]? with
     | none=>rw [q] at h4; simp at h4
     | some o=>rw [q] at h4; simp at h4; rw [h4]
    obtain ⟨hN,hf⟩:=ok.caps c (Jq hc)
    have hv:=ok.free _ (du hf) rfl
    obtain ⟨mm,_,hl⟩:=I.loc
    obtain ⟨u,r,l⟩:=hl c.2 c.1 v hN h2' (.inr hv)
    refine ⟨u,r,.inr ⟨hU hf,?_⟩⟩
    rcases l with ⟨l,_⟩ | ⟨_,a,ha,o,ho,hd⟩
    · have l':X.env.scope.names.lookup c.1=a_ .local:=l
      rcases hv with z | z
      · rw [l'] at z; cases z
      · rw [l'] at z; cases z
    · obtain ⟨a',ha'⟩:=Hw.mp (jJ (env:=X.env) scope.names [] (du hf))
      have e2:=cl1 _ _ ha'
      rw [ha] at e2
      cases e2
      exact ⟨a,lk2 _ _ (fun hm=>by have z:=ok.one _ hm rfl; rw [hf] at z; cases z) ha',o,old _ _ ho,hd⟩
 · rcases lk y c e with p | ⟨_,p⟩
   · exact ⟨ck,(hck.empty y c p).1⟩
   · obtain ⟨v,o,ho,hd⟩:=I.cell y c (cl1 y c p)
     exact ⟨v,o,old _ _ ho,hd⟩
 · rcases lk y c e with p | ⟨_,p⟩
   · exact I.hok.fresh (Il (big y c p))
   · exact I.freeC y c (cl1 y c p)
def z5 (X:Cx) (ns:List Str) (cs:List (Str×Nat)) (scope:GK) (D:i_) (s2:ge) (H2:Hp) (fp:List i_) (tn:Nat→FF→Prop) (ds ys:List Dv) (b:Dv→Ev→Option Ev) (tst:Option FnB) (fe:FnE) (ρ:Ev) (m:Nat) (s':ge):Prop :=
 ∃ i σ' H' es vs its,m=ds.length - i∧i≤ds.length∧Inv (ai X (ns ++ cs.map (·.1)) scope (D + 1) s2 H2 fp) [] σ' H' s'∧Envs X.K H' σ' (fD ns.length cs ρ)∧tn i s'.heap∧(∀ b∈fp,H' b=ck)∧H' D=ck∧LAt s'.heap D its∧Vals vs its∧Reps X.K H' es vs∧es.length≤i∧Same H2 H' ∧
  (match hZ b tst fe (fD ns.length cs ρ) (ds.drop i) with | some zs=>es ++ zs=ys | none=>False)
theorem jv {X:Cx} {pins:List (i_×Obj)} {σ:L2.St} {tg elt iter:C_} {ifs:List C_} {scope:GK} {pos:Pos} {ns:List Str} {tst:Option FnB} {fe:FnE} {b:Dv→Ev→Option Ev} {js:List Nat} (cs:List (Str×Nat)) (ok:gM X.env.scope scope cs X.N) (hc:X.calm=e_)
 (htg:∀ C s H fp,FG (ai X (ns ++ cs.map (·.1)) scope C s H fp) tg b) (helt:∀ C s H fp,(∃ pins σ,Inv X pins σ H s)→FE (ai X (ns ++ cs.map (·.1)) scope C s H fp) elt fe) (hifs:∀ C s H fp,(∃ pins σ,Inv X pins σ H s)→lP (ai X (ns ++ cs.map (·.1)) scope C s H fp) ifs tst)
 (hback:∀ ρ d ρ',b d (fD ns.length cs ρ)=a_ ρ'→fgt js ρ'=fD ns.length cs ρ)
 {ρ:Ev} {s2:ge} {it:i_} {fp:List i_} {tn:Nat→FF→Prop} {J:It} {H2:Hp} (E:Envs X.K H2 σ ρ) (I2:Inv X pins σ H2 s2) (T:ue X.prog X.w X.K tg J fp it tn) (st2:tn 0 s2.heap) (f2:∀ b∈fp,mG X pins H2 b) {ds ys:List Dv} (wk:WkG X.K J ds H2) (hdl:ds.length≤100000) (hyl:ys.length≤100000) (hm:hZ b tst fe (fD ns.length cs ρ) ds=a_ ys)
 {RR:d_→i_→LS→ge→Prop}
 (hRR:∀ (D C:i_) (s6:ge) (H5:Hp) (vs:List V) (m6:Str→Option d_),Inv X pins σ (upd H5 D (.lst vs)) s6→H5 D=ck→Same H2 H5→Reps X.K H5 ys vs→s6.heap.Ns C m6→H5 C=ck→C≠D→s2.heap.objs.size≤C→RR (.ref D) C (.ok .next) s6) :
 u_ (x_ X.prog X.w) X.A (newList []) (fun acc s₃=>u_ (x_ X.prog X.w) X.A (Lc scope X.env.globals (gH scope.names X.env []) [] X.env.qual ck .none (a_ X.env)) (fun cenv s₄ =>
  H_ (x_ X.prog X.w) X.A (.compStart (.ListComp elt [⟨tg,iter,ifs,0⟩] scope pos) 0 (.ref it) acc { cenv with scope:=relabel scope X.env }) (RR acc cenv.locals) s₄) X.xe s₃) X.xe s2:=by
 have fplt:∀ b∈fp,b < s2.heap.objs.size:=fun b hb=>by
  obtain ⟨o,ho,_⟩:=T.obj _ _ st2 b hb
  exact v_ ho
 refine H4 (wj ok.kind ?_)
 dsimp only
 generalize hH2:s2.heap.push { cls:=.type "list",dict:=ck,data:=.seq ([]:List d_).toArray }=P2
 obtain ⟨D,hD⟩:∃ D,s2.heap.objs.size=D:=⟨_,rfl⟩
 have hC:P2.objs.size=D + 1:=by rw [← hH2,G6,hD]
 rw [hC,hD]
 obtain ⟨h₁,hh₁⟩:∃ h,h=pushCells (P2.push { cls:=.type "dict",data:=.dict #[] }) scope.names:=⟨_,rfl⟩
 rw [← hh₁]
 have kp:∀ b o,P2.get? b=a_ o→h₁.get? b=a_ o:=fun b o e=>by rw [hh₁]; exact pushCells_keeps _ _ b o (k_ _ e)
 have old:∀ b o,s2.heap.get? b=a_ o→h₁.get? b=a_ o:=fun b o e=>kp b o (hH2 ▸ k_ _ e)
 have hacc:LAt h₁ D []:=⟨0,kp _ _ (by rw [← hH2,← hD]; exact z_ _ rfl)⟩
 have hns:h₁.Ns (D + 1) fun _=>ck:=by
  rw [hh₁,← hC]
  exact (Heap.Ns.new P2 (.type "dict")).keeps (pushCells_keeps _ _)
 have hck:CellsOk h₁ (D + 1 + 1) (F5 (D + 1 + 1) scope.names []):=by
  have q:=cellsFrom_ok scope.names (P2.push { cls:=.type "dict",data:=.dict #[] }) (D + 1 + 1) [] ⟨fun _ _ hm=>(nomatch hm),Kg⟩ (by rw [G6,hC]; exact m_ _)
  rw [G6,hC,← hh₁] at q
  exact q
 have I4:Inv (ai X (ns ++ cs.map (·.1)) scope (D + 1) s2 H2 fp) [] (kA ns.length cs σ) H2 { s2 with heap:=h₁ }:=qH (t':=s2.toks) ok I2 f2 fplt (by rw [hD]; exact Lp D) hns old hck
 have E4:Envs X.K H2 (kA ns.length cs σ) (fD ns.length cs ρ):=pP ns.length cs E
 have HD:H2 D=ck:=I2.hok.fresh (Im hD)
 have fpD:∀ b∈fp,b≠D:=fun b hb=>vt (hD ▸ fplt b hb)
 have loop:∀ s4:ge,s4={ s2 with heap:=h₁ } →
  H_ (x_ X.prog X.w) X.A (.compLoop (.ListComp elt [⟨tg,iter,ifs,0⟩] scope pos) 0 (.ref it) (.ref D) (L5 scope (F5 (D + 1 + 1) scope.names (gH scope.names X.env [])) (D + 1) X.env)) (RR (.ref D) (D + 1)) s4:=by
  rintro s4 rfl
  refine kG (fun k s'=>z5 X ns cs scope D s2 H2 fp tn ds ys b tst fe ρ k s') ?_ ds.length ⟨0,kA ns.length cs σ,H2,[],[],[],by simp,Gd _,I4,E4,T.keep _ _ _ st2 fun b hb o e=>old b o e,fun b hb=>(f2 b hb).1,HD,hacc,.nil,rfl,m_ _,.refl H2,by rw [List.drop_zero,hm]; rfl⟩
  rintro k0 s5 ⟨i,σ5,H5,es,vs,its,rfl,hi5,I5,E5,t5,fr5,D5,l5,v5,r5,hel,e5,hz⟩
  have nC:∀ b∈fp,b≠D + 1:=fun b hb=>yR (hD ▸ fplt b hb)
  have DL:D≠(ai X (ns ++ cs.map (·.1)) scope (D + 1) s2 H2 fp).env.locals:=Eb
  have Dcell:∀ y c,(ai X (ns ++ cs.map (·.1)) scope (D + 1) s2 H2 fp).env.cells.lookup y=a_ c→c≠D:=fun y c e z=>by
   obtain ⟨v,o,ho,hd⟩:=I5.cell y c e
   obtain ⟨n,q⟩:=l5
   subst z
   rw [q] at ho
   cases ho
   cases hd
  have Dfs:D ∉ (ai X (ns ++ cs.map (·.1)) scope (D + 1) s2 H2 fp).fs:=fun z=>by
   rcases FB.mp (I2.stkSub D z) with q | q
   · have z2:=I2.lt
     rw [hD] at z2
     exact vt z2 q.symm
   · exact I2.nofs (Im hD) q
  have Dp:mG (ai X (ns ++ cs.map (·.1)) scope (D + 1) s2 H2 fp) [] H5 D:=⟨D5,DL,Dfs,.inr (Im hD),Dcell,fun p hp=>absurd (show p∈([]:List (i_×Obj)) from hp) (by simp)⟩
  have Dob:∀ b∈[D],∃ o,s5.heap.get? b=a_ o∧∀ v,o.data≠.cell v:=fun b hb=>by
   have e:b=D:=by simpa using hb
   subst e
   obtain ⟨n,q⟩:=l5
   exact ⟨_,q,fun v z=>by cases z⟩
  have I5p:Inv (ai X (ns ++ cs.map (·.1)) scope (D + 1) s2 H2 fp) (cz [D] s5.heap) σ5 H5 s5:=by
   have q:=I5.pinned (fp:=[D]) (fun b hb=>by
    have e:b=D:=by simpa using hb
    subst e; exact Dp) Dob
   rw [K2] at q
   exact q
  have ner:∀ b∈fp,∀ p∈cz [D] s5.heap,p.1≠b:=fun b hb p hp z=>by
   have e:p.1=D:=by simpa using (io hp).1
   exact fpD b hb (z.symm.trans e)
  have fp5':∀ b∈fp,mG (ai X (ns ++ cs.map (·.1)) scope (D + 1) s2 H2 fp) (cz [D] s5.heap) H5 b:=fun b hb=>⟨fr5 b hb,nC b hb,I4.ok.exfs b hb,.inl hb,(I4.ok.exf b hb).2,fun p hp=>ner b hb p (by simpa [ai] using hp)⟩
  have lenR:vs.length=es.length:=r5.length
  have lenV:vs.length=its.length:=v5.length
  by_cases hlt:i < ds.length
  · refine thn (T.item (ai X (ns ++ cs.map (·.1)) scope (D + 1) s2 H2 fp) rfl rfl rfl hc i (cz [D] s5.heap) s5 σ5 H5 _ I5p fp5' t5 (wk.go i H5 e5 hlt)) fun r s6 ⟨u,hr,h6⟩=>?_
    subst hr
    refine thn h6 fun _ s7 ⟨xv,H7,I7,r7,y7,t7,fr7⟩=>?_
    obtain ⟨e57,d,hd,rd⟩:=wk.yld i H5 xv H7 e5 hlt y7
    rw [iA hd] at hz
    have I7p:=I7.pinned (fp:=fp) (fun b hb=>⟨fr7 b hb,nC b hb,I4.ok.exfs b hb,.inl hb,(I4.ok.exf b hb).2,fun p hp=>ner b hb p (by simpa [ai] using hp)⟩) (T.obj _ _ t7)
    have fin:∀ {σ8:L2.St} {H8:Hp} {s8:ge},Inv (ai X (ns ++ cs.map (·.1)) scope (D + 1) s2 H2 fp) (cz [D] s5.heap ++ cz fp s7.heap) σ8 H8 s8→tn (i + 1) s8.heap∧(∀ b∈fp,H8 b=ck)∧H8 D=ck∧LAt s8.heap D its:=fun {σ8 H8 s8} I8=>by
     refine ⟨T.keep _ _ _ t7 fun b hb o e=>(I8.pin (b,o) (s_ _ (s_ _ (bZ hb e)))).1,fun b hb=>?_,?_,?_⟩
     · obtain ⟨o,e,_⟩:=T.obj _ _ t7 b hb
       exact (I8.pin (b,o) (s_ _ (s_ _ (bZ hb e)))).2.1
     · obtain ⟨n,q⟩:=l5
       exact (I8.pin (D,_) (s_ _ (FH _ (bZ (by simp) q)))).2.1
     · obtain ⟨n,q⟩:=l5
       exact ⟨n,(I8.pin (D,_) (s_ _ (FH _ (bZ (by simp) q)))).1⟩
    unfold hZ at hz
    match hb:b d (fD ns.length cs ρ) with
    | none=>rw [hb] at hz; exact hz.elim
    | some ρd =>
     rw [hb] at hz
     dsimp only at hz
     refine FU ((htg (D + 1) s2 H2 fp).h _ s7 σ5 H7 xv u d (fD ns.length cs ρ) ρd I7p r7 rd (E5.mono e57) hb) (fun _ s8 ⟨σ8,H8,I8,e78,E8⟩=>?_) fun _ _ z=>FK z
     have e58:=e57.trans e78
     have back:∀ {σ9:L2.St} {H9:Hp},Envs X.K H9 σ9 ρd→Envs X.K H9 σ9 (fD ns.length cs ρ):=fun {σ9 H9} E9=>by
      have q:=Envs.fgt js E9
      rw [hback ρ d ρd hb] at q
      exact q
     have took:∀ {H9:Hp} {s9:ge},Inv (ai X (ns ++ cs.map (·.1)) scope (D + 1) s2 H2 fp) (cz [D] s5.heap ++ cz fp s7.heap) σ8 H9 s9→Same H8 H9 →
      (match (match fe ρd with | some (.ok y)=>(match hZ b tst fe (fD ns.length cs ρ) (ds.drop (i + 1)) with | some ys=>a_ (y :: ys) | none=>ck) | _=>ck) with | some zs=>es ++ zs=ys | none=>False) →
      u_ (x_ X.prog X.w) X.A (eval elt (L5 scope (F5 (D + 1 + 1) scope.names (gH scope.names X.env [])) (D + 1) X.env)) (fun xw s₄ =>
       u_ (x_ X.prog X.w) X.A (call (.builtin "list.append") [.ref D,xw]) (fun _ s₅=>∃ k,k < ds.length - i∧z5 X ns cs scope D s2 H2 fp tn ds ys b tst fe ρ k s₅) (KI (x_ X.prog X.w) X.A (L5 scope (F5 (D + 1 + 1) scope.names (gH scope.names X.env [])) (D + 1) X.env) fun e s'=>RR (.ref D) (D + 1) (.error e) s') s₄) (KI (x_ X.prog X.w) X.A (L5 scope (F5 (D + 1 + 1) scope.names (gH scope.names X.env [])) (D + 1) X.env) fun e s'=>RR (.ref D) (D + 1) (.error e) s') s9:=fun {H9 s9} I9 e9 hz9=>by
      match hfe:fe ρd,hz9 with
      | none,hz9=>exact hz9.elim
      | some (.exc c),hz9=>exact hz9.elim
      | some (.ok y),hz9 =>
       refine FU ((helt (D + 1) s2 H2 fp ⟨_,_,I2⟩).h _ s9 σ8 H9 (fun v H10=>Same H9 H10∧Rep X.K H10 y v) I9 ⟨ρd,E8.mono e9,by rw [hfe]; exact fun v H10 e10 r10=>⟨e10,r10⟩⟩) (fun w s10 ⟨yv,H10,I10,rw10,e10,r10⟩=>?_) fun _ _ z=>FK z
       obtain ⟨t10,fr10,D10,l10⟩:=fin I10
       refine oa l10 (by omega) fun h11 l11 k11=>?_
       have I10':Inv (ai X (ns ++ cs.map (·.1)) scope (D + 1) s2 H2 fp) (cz fp s7.heap) σ8 H10 s10:=I10.pins_of fun p hp=>I10.pin p (s_ _ (s_ _ hp))
       have I11:Inv (ai X (ns ++ cs.map (·.1)) scope (D + 1) s2 H2 fp) (cz fp s7.heap) σ8 H10 { s10 with heap:=h11 }:=I10'.turned (t':=s10.toks) k11 D10 DL (.inr (Im hD)) Dcell fun p hp z=>by
        have hp':p∈cz fp s7.heap:=by simpa [ai] using hp
        exact fpD p.1 (io hp').1 z
       have e80:=e9.trans e10
       refine ⟨ds.length - (i + 1),by omega,i + 1,σ8,H10,es ++ [y],vs ++ [yv],its ++ [w],rfl,hlt,I11.pins_of fun p hp=>absurd hp (by simp),back (E8.mono e80),T.keep _ _ _ t10 fun b hb o e=>k11 b o (fpD b hb) e,fr10,D10,l11,v5.append (.cons rw10 .nil),(Reps.mono (e58.trans e80) _ _ r5).append ⟨yv,[],rfl,r10,rfl⟩,by rw [Gs,K8]; omega,e5.trans (e58.trans e80),?_⟩
       match hm2:hZ b tst fe (fD ns.length cs ρ) (ds.drop (i + 1)),hz9 with
       | none,hz9=>exact hz9.elim
       | some zs,hz9=>dsimp only at hz9 ⊢; rw [Ia]; exact hz9
     have hif:=hifs (D + 1) s2 H2 fp ⟨_,_,I2⟩
     cases tst with
     | none =>
      cases (show ifs=[] from hif)
      exact wpAny_tests_nil (by rw [if_pos rfl]; exact took I8 (.refl H8) hz)
     | some t =>
      obtain ⟨c,rfl,hct⟩:=hif
      match htt:t ρd,hz with
      | none,hz=>simp only [htt] at hz
      | some (.exc c),hz=>simp only [htt] at hz
      | some (.ok e_),hz =>
       simp only [htt] at hz
       refine wpAny_tests_one (FU (hct.h _ s8 σ8 H8 (fun b H9=>b=e_∧Same H8 H9) I8 ⟨_,E8,by rw [htt]; exact fun H9 e9=>⟨rfl,e9⟩⟩) (fun b s9 ⟨H9,I9,hb,e9⟩=>?_) fun _ _ z=>FK z)
       subst hb
       rw [if_pos rfl]
       exact took I9 e9 hz
      | some (.ok f_),hz =>
       simp only [htt] at hz
       refine wpAny_tests_one (FU (hct.h _ s8 σ8 H8 (fun b H9=>b=f_∧Same H8 H9) I8 ⟨_,E8,by rw [htt]; exact fun H9 e9=>⟨rfl,e9⟩⟩) (fun b s9 ⟨H9,I9,hb,e9⟩=>?_) fun _ _ z=>FK z)
       subst hb
       rw [if_neg q_]
       obtain ⟨t9,fr9,D9,l9⟩:=fin I9
       exact ⟨ds.length - (i + 1),by omega,i + 1,σ8,H9,es,vs,its,rfl,hlt,I9.pins_of fun p hp=>absurd hp (by simp),back (E8.mono e9),t9,fr9,D9,l9,v5,Reps.mono (e58.trans e9) _ _ r5,by omega,e5.trans (e58.trans e9),hz⟩
  · have hi':i=ds.length:=by omega
    subst hi'
    rw [KD] at hz
    have hz':es ++ []=ys:=hz
    rw [GE] at hz'
    subst hz'
    refine thn (T.done (ai X (ns ++ cs.map (·.1)) scope (D + 1) s2 H2 fp) rfl rfl rfl hc ds.length (cz [D] s5.heap) s5 σ5 H5 _ I5p fp5' t5 (wk.stop H5 e5)) fun r s6 ⟨hr,I6⟩=>?_
    subst hr
    have l6:LAt s6.heap D its:=by
     obtain ⟨n,q⟩:=l5
     exact ⟨n,(I6.pin (D,_) (s_ _ (bZ (by simp) q))).1⟩
    obtain ⟨m6,n6,_⟩:=I6.loc
    have C6:H5 (D + 1)=ck:=I6.free
    have new:ObjOk X.prog X.w (upd H5 D (.lst vs)) s6.heap D (.lst vs):=by
     obtain ⟨n,q⟩:=l6
     exact ⟨by rw [lenR]; exact bG hyl,its,n,v5,q⟩
    have u6:Un (L2.frs X.stack) fp H2 H5 s2.heap s6.heap:=I6.base
    have nD:∀ b o,s2.heap.get? b=a_ o→b≠D:=fun b o e=>by
     have hb:b < D:=by rw [← hD]; exact v_ e
     exact vt hb
    have u7:Un (L2.frs X.stack) fp H2 (upd H5 D (.lst vs)) s2.heap s6.heap:=⟨u6.keep,u6.slot,fun b o e n hx=>by rw [au (nD b o e)]; exact u6.free b o e n hx,u6.there,fun b xs q=>by
     have q':=u6.tups b xs q
     rw [au (av q' D5)]; exact q',fun b o u q=>by
     have q':=u6.frzs b o u q
     rw [au (av q' D5)]; exact q',fun b ps q=>by
     obtain ⟨more,q'⟩:=u6.tbls b ps q
     exact ⟨more,by rw [au (av q' D5)]; exact q'⟩⟩
    have I7:Inv X pins σ (upd H5 D (.lst vs)) s6:=I2.call' (s':=s6) (ch:=fp) I6.os u7 (HOk.add I6.hok D5 C6 (fun b u _ q=>q) new) I6.bare fun b hb=>⟨(f2 b hb).2.2.2.1,(f2 b hb).2.1,(f2 b hb).2.2.2.2.1,(f2 b hb).2.2.2.2.2⟩
    exact hRR D (D + 1) s6 H5 vs m6 I7 D5 e5 r5 n6 C6 (IX Eb) (by rw [hD]; exact Lp D)
 exact codeAny_compStart_list (loop _ rfl) (T.self _ 0 _ _ _ (T.keep _ _ _ st2 fun b hb o e=>old b o e) (loop _ rfl))
theorem nu {X:Cx} {tg elt iter:C_} {ifs:List C_} {scope:GK} {pos:Pos} {src:FnA} {tst:Option FnB} {fe:FnE} {b:Dv→Ev→Option Ev} (osc:GK) (N ns:List Str) (js:List Nat) (cs:List (Str×Nat)) (hosc:X.env.scope=osc) (hN:X.N=N) (ok:gM osc scope cs N) (hcl:G8 scope X.env=pure (gH scope.names X.env [])) (hc:X.calm=e_)
 (hback:∀ ρ d ρ',b d (fD ns.length cs ρ)=a_ ρ'→fgt js ρ'=fD ns.length cs ρ)
 (hi:FIG X tg iter src) (htg:∀ C s H fp,FG (ai X (ns ++ cs.map (·.1)) scope C s H fp) tg b) (helt:∀ C s H fp,(∃ pins σ,Inv X pins σ H s)→FE (ai X (ns ++ cs.map (·.1)) scope C s H fp) elt fe) (hifs:∀ C s H fp,(∃ pins σ,Inv X pins σ H s)→lP (ai X (ns ++ cs.map (·.1)) scope C s H fp) ifs tst)
 (hs:∀ x,FR iter X.env x=pure x:=by intro _; kernel_rfl):FE X (.ListComp elt [⟨tg,iter,ifs,0⟩] scope pos) (bj ns.length cs src b tst fe):=by
 subst hosc hN
 constructor
 intro pins s σ H Q I h
 obtain ⟨ρ,E,o⟩:=h
 match ho:bj ns.length cs src b tst fe ρ with
 | none=>rw [ho] at o; exact o.elim
 | some r =>
  rw [ho] at o
  rw [eval_ListComp]
  have key:OutG X H (src ρ) fun J H'=>∃ ds ys,Same H H'∧WkG X.K J ds H'∧ds.length≤100000∧ys.length≤100000∧hZ b tst fe (fD ns.length cs ρ) ds=a_ ys∧(∀ v H'',Same H' H''→Rep X.K H'' (.lst ys) v→Q v H''):=by
   rcases CB ho with ⟨c,e1,e2⟩ | ⟨ds,ys,e1,e2,l1,l2,e3⟩
   · subst e2; rw [e1]; exact o
   · subst e3; rw [e1]; exact fun J H' e wk=>⟨ds,ys,e,wk,l1,l2,e2,fun v H'' e2 r=>o v H'' (e.trans e2) r⟩
  refine Ki (use:=ck) rfl hs hcl ok.kind ok.names (thn (hi.h pins s σ H _ I ⟨ρ,E,key⟩) fun v s1 h1=>thn h1 fun itv s2 h2=>?_)
  obtain ⟨it,fp,tn,J,H2,e,I2,T,st2,f2,ds,ys,e12,wk,hdl,hyl,hm,hQ⟩:=h2
  subst e
  refine jv cs ok hc htg helt hifs hback (E.mono e12) I2 T st2 f2 wk hdl hyl hm (RR:=fun acc C=>compPost (x_ X.prog X.w) X.A X.xe ck (EP X pins σ Q) acc C) fun D C s6 H5 vs m6 I6 D5 e5 r5 n6 C6 CD hC=>?_
  refine ⟨m6,n6,fun h7 sb7=>?_⟩
  have Cn:(upd H5 D (.lst vs)) C=ck:=by rw [au CD]; exact C6
  obtain ⟨q0,q1,q2,q3,q4,q5⟩:=I2.fpOk hC Cn
  have I7:Inv X pins σ (upd H5 D (.lst vs)) { s6 with heap:=h7 }:=I6.turned (t':=s6.toks) (fun b o hb e=>sb7.extBut b o hb e) q0 q1 q3 q4 q5
  exact ⟨.ref D,_,I7,rfl,hQ _ _ (e5.trans (aq D5 _)) ⟨D,vs,rfl,ao,Reps.mono (aq D5 _) _ _ r5⟩⟩
theorem jW {X:Cx} {tg elt iter:C_} {ifs:List C_} {scope:GK} {pos:Pos} {src:FnA} {tst:Option FnB} {fe:FnE} {b:Dv→Ev→Option Ev} (osc:GK) (N ns:List Str) (js:List Nat) (cs:List (Str×Nat)) (hosc:X.env.scope=osc) (hN:X.N=N) (ok:gM osc scope cs N) (hcl:G8 scope X.env=pure (gH scope.names X.env [])) (hc:X.calm=e_)
 (hback:∀ ρ d ρ',b d (fD ns.length cs ρ)=a_ ρ'→fgt js ρ'=fD ns.length cs ρ)
 (hi:FIG X tg iter src) (htg:∀ C s H fp,FG (ai X (ns ++ cs.map (·.1)) scope C s H fp) tg b) (helt:∀ C s H fp,FE (ai X (ns ++ cs.map (·.1)) scope C s H fp) elt fe) (hifs:∀ C s H fp,lP (ai X (ns ++ cs.map (·.1)) scope C s H fp) ifs tst)
 (hs:∀ x,FR iter X.env x=pure x:=by intro _; kernel_rfl):FE X (.ListComp elt [⟨tg,iter,ifs,0⟩] scope pos) (bj ns.length cs src b tst fe) :=
 nu osc N ns js cs hosc hN ok hcl hc hback hi htg (fun C s H fp _=>helt C s H fp) (fun C s H fp _=>hifs C s H fp) hs
theorem nv {X:Cx} {tg elt iter:C_} {ifs:List C_} {scope:GK} {pos:Pos} {src:FnA} {tst:Option FnB} {fe:FnE} {b:Dv→Ev→Option Ev} {y:Str} {py spos:Pos} (i:Nat) (hnd:X.N.Nodup) (hiy:X.N[i]?=a_ y) (hxy:Loc X.env.scope y) (hfy:X.fn y=e_∨X.env.scope.names.lookup y=a_ .local)
 (osc:GK) (N ns:List Str) (js:List Nat) (cs:List (Str×Nat)) (hosc:X.env.scope=osc) (hN:X.N=N) (ok:gM osc scope cs N) (hcl:G8 scope X.env=pure (gH scope.names X.env [])) (hc:X.calm=e_)
 (hback:∀ ρ d ρ',b d (fD ns.length cs ρ)=a_ ρ'→fgt js ρ'=fD ns.length cs ρ)
 (hi:FIG X tg iter src) (htg:∀ C s H fp,FG (ai X (ns ++ cs.map (·.1)) scope C s H fp) tg b) (helt:∀ C s H fp,FE (ai X (ns ++ cs.map (·.1)) scope C s H fp) elt fe) (hifs:∀ C s H fp,lP (ai X (ns ++ cs.map (·.1)) scope C s H fp) ifs tst)
 (hsw:G7 (.ListComp elt [⟨tg,iter,ifs,0⟩] scope pos) (a_ (.Name y py)) spos.line X.env=pure e_:=by kernel_rfl)
 (hs:∀ x,FR iter X.env x=pure x:=by intro _; kernel_rfl):PS X (.Assign [.Name y py] (.ListComp elt [⟨tg,iter,ifs,0⟩] scope pos) spos) (tC X i (bj ns.length cs src b tst fe)):=by
 subst hosc hN
 intro pins s σ H D0 I h
 obtain ⟨ρ,E,o⟩:=h
 match ho:bj ns.length cs src b tst fe ρ with
 | none=>rw [ho] at o; exact o.elim
 | some r =>
  rw [ho] at o
  have key:OutG X H (src ρ) fun J H'=>∃ ds ys,Same H H'∧WkG X.K J ds H'∧ds.length≤100000∧ys.length≤100000∧hZ b tst fe (fD ns.length cs ρ) ds=a_ ys∧(∀ H5 p vs,Same H' H5→H5 p=ck→Reps X.K H5 ys vs→D0.nx (σ.set i (a_ (.ref p))) (upd H5 p (.lst vs))):=by
   rcases CB ho with ⟨c,e1,e2⟩ | ⟨ds,ys,e1,e2,l1,l2,e3⟩
   · subst e2; rw [e1]; exact o
   · subst e3; rw [e1]; obtain ⟨ys',ey,o⟩:=o; cases ey; exact fun J H' e wk=>⟨ds,ys,e,wk,l1,l2,e2,fun H5 p vs e3 hp r=>o H5 p vs (e.trans e3) hp r⟩
  rw [exec_Assign_Name_used _ _ _ _ hsw]
  refine g_ (wpAny_standAt (g_ ?_))
  show u_ _ X.A (do let _ ← comprehension (.ListComp elt [⟨tg,iter,ifs,0⟩] scope pos) scope X.env _ (newList []) f_ (eval iter X.env) (a_ (Kl (.Name y py) X.env))) _ _ s
  refine g_ (FU (Ki (use:=a_ (Kl (.Name y py) X.env)) (Q:=fun _ s'=>SP X pins D0 .next s') rfl hs hcl ok.kind ok.names
   (thn (hi.h pins s σ H _ I ⟨ρ,E,key⟩) fun v s1 h1=>thn h1 fun itv s2 h2=>?_)) (fun _ s' hq=>j_ (j_ hq)) fun _ _ e=>e)
  obtain ⟨it,fp,tn,J,H2,e,I2,T,st2,f2,ds,ys,e12,wk,hdl,hyl,hm,hQ⟩:=h2
  subst e
  refine jv cs ok hc htg (fun C s H fp _=>helt C s H fp) (fun C s H fp _=>hifs C s H fp) hback (E.mono e12) I2 T st2 f2 wk hdl hyl hm (RR:=fun acc C=>compPost (x_ X.prog X.w) X.A X.xe (a_ (Kl (.Name y py) X.env)) (fun _ s'=>SP X pins D0 .next s') acc C) fun D C s6 H5 vs m6 I6 D5 e5 r5 n6 C6 CD hC=>?_
  have Cn:(upd H5 D (.lst vs)) C=ck:=by rw [au CD]; exact C6
  have FC:=I2.fpOk hC Cn
  obtain ⟨oC,es,ep,hoC,hdC,rC⟩:=id n6
  have I6p:=I6.pinned (fp:=[C]) (fun b hb=>by
   have e:b=C:=by simpa using hb
   subst e; exact FC) (fun b hb=>by
   have e:b=C:=by simpa using hb
   subst e
   exact ⟨oC,hoC,fun v z=>by rw [hdC] at z; cases z⟩)
  refine thn (gF hnd hiy hxy hfy _ s6 σ _ (.ref D) (.ref D) (fun σ' H'=>σ'=σ.set i (a_ (.ref D))∧H'=upd H5 D (.lst vs)) I6p rfl ⟨rfl,rfl⟩) fun _ s8 ⟨σ8,H8,I8,e1,e2⟩=>?_
  subst e1 e2
  have hC8:=(I8.pin (C,oC) (s_ _ (s_ _ (bZ (by simp) hoC)))).1
  refine ⟨m6,⟨oC,es,ep,hC8,hdC,rC⟩,fun h9 sb9=>?_⟩
  have I8':Inv X pins (σ.set i (a_ (.ref D))) (upd H5 D (.lst vs)) s8:=I8.unpinned
  obtain ⟨q0,q1,q2,q3,q4,q5⟩:=FC
  have I9:Inv X pins (σ.set i (a_ (.ref D))) (upd H5 D (.lst vs)) { s8 with heap:=h9 }:=I8'.turned (t':=s8.toks) (fun b o hb e=>sb9.extBut b o hb e) q0 q1 q3 q4 q5
  exact ⟨_,_,I9,hQ H5 D vs e5 D5 r5⟩
abbrev bE:=List (Str×Nat×List Str×(List Dv→Option (Rs Dv)))
theorem dw {β:Type} {x y:Str} {e e':β} {T:List (Str×β)} (h:((y,e) :: T).lookup x=a_ e'):(x=y∧e'=e)∨T.lookup x=a_ e':=by
 rw [F_] at h
 split at h
 · rename_i hb
   exact .inl ⟨Lw hb,by cases h; rfl⟩
 · exact .inr h
section
variable {P:n_} {w:y_} {K:c_} {mg:Str→Option d_} {base:FF} {T:bE} {y:Str} {k:Nat} {ps:List Str} {F:List Dv→Option (Rs Dv)}
structure HA (P:n_) (w:y_) (K:c_) (mg:Str→Option d_) (base:FF) (T:bE):Prop where
 h:∀ x e,T.lookup x=a_ e→Has P w K mg base x e.1 e.2.1 e.2.2
structure HAE (P:n_) (w:y_) (K:c_) (mg:Str→Option d_) (base:FF) (T:bE):Prop where
 h:∀ x e,T.lookup x=a_ e→Bw P w K mg base x e.1 e.2.1 e.2.2
structure HAM (P:n_) (w:y_) (K:c_) (mg:Str→Option d_) (base:FF) (T:bE):Prop where
 h:∀ x e,T.lookup x=a_ e→Bx P w K mg base x e.1 e.2.1 e.2.2
theorem z6:HA P w K mg base []:=⟨fun _ _ h=>by cases h⟩
theorem wl:HAE P w K mg base []:=⟨fun _ _ h=>by cases h⟩
theorem wm:HAM P w K mg base []:=⟨fun _ _ h=>by cases h⟩
theorem aw (h:Has P w K mg base y k ps F) (t:HA P w K mg base T):HA P w K mg base ((y,k,ps,F) :: T):=⟨fun x e q=>by
 rcases dw q with ⟨rfl,rfl⟩ | q
 · exact h
 · exact t.h x e q⟩
theorem gx (h:Bw P w K mg base y k ps F) (t:HAE P w K mg base T):HAE P w K mg base ((y,k,ps,F) :: T):=⟨fun x e q=>by
 rcases dw q with ⟨rfl,rfl⟩ | q
 · exact h
 · exact t.h x e q⟩
theorem sY (h:Bx P w K mg base y k ps F) (t:HAM P w K mg base T):HAM P w K mg base ((y,k,ps,F) :: T):=⟨fun x e q=>by
 rcases dw q with ⟨rfl,rfl⟩ | q
 · exact h
 · exact t.h x e q⟩
abbrev xK:=List (Str×Option Dv)
def cN (s:String):Str×Option Dv:=(b_ s,ck)
def cI (s:String) (i:Int):Str×Option Dv:=(b_ s,a_ (.int i))
def cS (s z:String):Str×Option Dv:=(b_ s,a_ (.str (b_ z)))
def EV (mg:Str→Option d_) (x:Str):Option Dv→Prop
 | none=>mg x=ck
 | some (.int i)=>∃ t,mg x=a_ (.int i t)
 | some (.str z)=>∃ t,mg x=a_ (.str z t)
 | _=>False
structure MA (mg:Str→Option d_) (C:xK):Prop where
 h:∀ x o,C.lookup x=a_ o→EV mg x o
theorem MA.no {C:xK} {x:Str} (h:MA mg C) (e:C.lookup x=a_ ck):mg x=ck:=h.h x ck e
def C7 (K:c_) (q:Str×Option Dv):Bool:=match q.2,GY K rl q.1 with
 | none,a_ ck=>e_
 | some (.int i),a_ (a_ (.int j _))=>i == j
 | some (.str z),a_ (a_ (.str y _))=>z == y
 | _,_=>f_
theorem z7 {h:FF} (X:K.In h) (G:h.Ns rl mg):∀ (C:xK),C.all (C7 K)=e_→MA mg C
 | [],_=>⟨fun x o q=>by cases q⟩
 | (y,o) :: C,e=>⟨fun x o' q=>by
  rw [G4,l_] at e
  rcases dw q with ⟨rfl,rfl⟩ | q
  · have h1:=e.1
    unfold C7 at h1
    dsimp only at h1
    split at h1
    · rename_i e1
      exact PySem.W.mg_none_of X G e1
    · rename_i i j t e1
      have hij:i=j:=Lw h1
      subst hij
      exact ⟨t,G_ X G e1⟩
    · rename_i z y t e1
      have hij:z=y:=Lw h1
      subst hij
      exact ⟨t,G_ X G e1⟩
    · cases h1
  · exact (z7 X G C e.2).h x o' q⟩
end
section
variable {X:Cx} {T:bE} {C:xK} {k' n:Nat} {x:Str} {p pos:Pos} {e:C_} {es:List C_} {F:List Dv→Option (Rs Dv)} {g:FnA}
theorem sZ (hT:HA X.prog X.w X.K X.mg X.base T) (hr:Room k' X.A) (hF:(T.lookup x).map (fun q=>q.2.2)=a_ F) (ha:FA X (e :: es) g) (hk:((T.lookup x).all fun q=>KW q.1 k' && Hz n q.2.1.length)=e_:=by kernel_rfl) (hg:X.env.kindOf x=a_ .globalImplicit:=by kernel_rfl) (hdb:(x == ("__debug__":Str))=f_:=by kernel_rfl)
 (he:h_ (e :: es) X.env=(f_,eval e X.env) :: h_ es X.env:=by kernel_rfl) (hpl:(FP pos (h_ es X.env)).any (·.1)=f_:=by kernel_rfl) :
 FE X (.Call (.Name x p) (e :: es) [] pos) (ag F n g):=by
 cases hq:T.lookup x with
 | none=>rw [hq] at hF; cases hF
 | some q =>
  rw [hq] at hF hk
  cases hF
  rw [HV,l_] at hk
  exact sh q.1 q.2.1 q.2.2 (hT.h x q hq) hr (GC hk.1) hg ha (FN hk.2) hdb he hpl
theorem qI (hT:HAE X.prog X.w X.K X.mg X.base T) (hr:Room k' X.A) (hF:(T.lookup x).map (fun q=>q.2.2)=a_ F) (hex:X.ex=[]) (ha:FA X (e :: es) g) (hk:((T.lookup x).all fun q=>KW q.1 k' && Hz n q.2.1.length)=e_:=by kernel_rfl) (hg:X.env.kindOf x=a_ .globalImplicit:=by kernel_rfl) (hdb:(x == ("__debug__":Str))=f_:=by kernel_rfl)
 (he:h_ (e :: es) X.env=(f_,eval e X.env) :: h_ es X.env:=by kernel_rfl) (hpl:(FP pos (h_ es X.env)).any (·.1)=f_:=by kernel_rfl) :
 FE X (.Call (.Name x p) (e :: es) [] pos) (aB F n g):=by
 cases hq:T.lookup x with
 | none=>rw [hq] at hF; cases hF
 | some q =>
  rw [hq] at hF hk
  cases hF
  rw [HV,l_] at hk
  exact sD q.1 q.2.1 q.2.2 (hT.h x q hq) hr (GC hk.1) hex hg ha (FN hk.2) hdb he hpl
theorem qJ (hT:HAM X.prog X.w X.K X.mg X.base T) (hr:RoomM k' X.A) (hF:(T.lookup x).map (fun q=>q.2.2)=a_ F) (ha:FA X (e :: es) g) (hk:((T.lookup x).all fun q=>KW q.1 k' && Hz n q.2.1.length)=e_:=by kernel_rfl) (hg:X.env.kindOf x=a_ .globalImplicit:=by kernel_rfl) (hdb:(x == ("__debug__":Str))=f_:=by kernel_rfl)
 (he:h_ (e :: es) X.env=(f_,eval e X.env) :: h_ es X.env:=by kernel_rfl) (hpl:(FP pos (h_ es X.env)).any (·.1)=f_:=by kernel_rfl) :
 FE X (.Call (.Name x p) (e :: es) [] pos) (ag F n g):=by
 cases hq:T.lookup x with
 | none=>rw [hq] at hF; cases hF
 | some q =>
  rw [hq] at hF hk
  cases hF
  rw [HV,l_] at hk
  exact sI q.1 q.2.1 q.2.2 (hT.h x q hq) hr (GC hk.1) hg ha (FN hk.2) hdb he hpl
theorem C8 {i:Int} (hM:MA X.mg C) (hl:C.lookup x=a_ (a_ (.int i))) (hg:X.env.kindOf x=a_ .globalImplicit:=by kernel_rfl) (hd:(x == ("__debug__":Str))=f_:=by kernel_rfl):FE X (.Name x pos) (fC (.int i)) :=
 let ⟨_,h⟩:=hM.h x _ hl
 vj hg h hd
theorem C9 {z:Str} (hM:MA X.mg C) (hl:C.lookup x=a_ (a_ (.str z))) (hg:X.env.kindOf x=a_ .globalImplicit:=by kernel_rfl) (hd:(x == ("__debug__":Str))=f_:=by kernel_rfl):FE X (.Name x pos) (fC (.str z)) :=
 let ⟨_,h⟩:=hM.h x _ hl
 vk hg h hd
def ndB:List Str→Bool
 | []=>e_
 | x :: r=>!(r.contains x) && ndB r
theorem h8:∀ {l:List Str},ndB l=e_→l.Nodup
 | [],_=>List.nodup_nil
 | x :: r,h=>by
  unfold ndB at h
  rw [l_] at h
  refine HW.2 ⟨fun hx=>?_,h8 h.2⟩
  have h1:=h.1
  rw [K_.2 hx] at h1
  cases h1
def ia (sc:GK) (x:Str):Bool:=match sc.names.lookup x with
 | some .local=>e_
 | some .cell=>e_
 | _=>f_
theorem fK {sc:GK} {x:Str} (h:ia sc x=e_):Loc sc x:=by
 unfold ia at h
 split at h
 · exact .inl ‹_›
 · exact .inr ‹_›
 · cases h
def td (osc scope:GK) (cs:List (Str×Nat)) (N:List Str):Bool :=
 t_ (scope.kind=.function) && t_ (∀ y∈scope.names,y.2=.cell→scope.names.lookup y.1=a_ .cell) && t_ (∀ y∈scope.names,y.2=.local→scope.names.lookup y.1=a_ .local) && t_ (∀ y∈scope.names,y.2=.free→osc.names.lookup y.1=a_ .cell∨osc.names.lookup y.1=a_ .free) && t_ (∀ c∈cs,N[c.2]?=a_ c.1∧scope.names.lookup c.1=a_ .free)
theorem jw {osc scope:GK} {cs:List (Str×Nat)} {N:List Str} (h:td osc scope cs N=e_):gM osc scope cs N:=by
 unfold td at h
 simp only [l_,decide_eq_true_eq] at h
 exact ⟨h.1.1.1.1,h.1.1.1.2,h.1.1.2,h.1.2,h.2⟩
theorem lkc {env:Env}:∀ {names:List (Str×HF)} {x:Str},names.lookup x=a_ .cell →
 (names.map fun (n,k)=>if (k == GN && env.scope.kind == .function && env.kindOf n == a_ .cell) then (n,GZ) else (n,k)).lookup x=a_ .cell
 | [],_,h=>by simp at h
 | (n,k) :: r,x,h=>by
  rw [F_] at h
  rw [FV]
  cases hx:x == n with
  | true =>
   rw [hx] at h
   cases h
   simp [F_,hx]
  | false =>
   rw [hx] at h
   have ih:=lkc (env:=env) h
   dsimp only
   split
   · rw [F_,hx]; exact ih
   · rw [F_,hx]; exact ih
theorem fgL {X:Cx} {N:List Str} {scope:GK} {C:i_} {s:ge} {H:Hp} {fp:List i_} {x:Str} (h:ia scope x=e_):Loc (ai X N scope C s H fp).env.scope x∧((ai X N scope C s H fp).fn x=e_∨(ai X N scope C s H fp).env.scope.names.lookup x=a_ .local):=by
 rcases fK h with h | h
 · exact ⟨.inl (Ld h),.inr (Ld h)⟩
 · exact ⟨.inr (lkc h),.inl (by show (scope.names.lookup x == a_ .cell)=e_; rw [h]; rfl)⟩
end
section
variable {X:Cx} {elt iter:C_} {ifs:List C_} {scope:GK} {pos px py pt spos:Pos} {src:FnA} {tst:Option FnB} {fe:FnE} {cs:List (Str×Nat)} {x y z:Str} {i:Nat} {k:Nat}
theorem fgA {N:List Str} (C:i_) (s:ge) (H:Hp) (fp:List i_) (hnd:ndB N=e_) (hx:N[0]?=a_ x) (hl:ia scope x=e_):FG (ai X N scope C s H fp) (.Name x px) (gN 0) :=
 vM 0 (h8 hnd) hx (fgL hl).1 (fgL hl).2
theorem Da (hi:FIG X (.Name x px) iter src) (helt:∀ C s H fp,FE (ai X (x :: cs.map (·.1)) scope C s H fp) elt fe) (hifs:∀ C s H fp,lP (ai X (x :: cs.map (·.1)) scope C s H fp) ifs tst)
 (hok:td X.env.scope scope cs X.N=e_:=by kernel_rfl) (hcl:G8 scope X.env=pure (gH scope.names X.env []):=by kernel_rfl) (hc:X.calm=e_:=by kernel_rfl) (hnd:ndB (x :: cs.map (·.1))=e_:=by kernel_rfl) (hl:ia scope x=e_:=by kernel_rfl)
 (hs:∀ x,FR iter X.env x=pure x:=by intro _; kernel_rfl):FE X (.ListComp elt [⟨.Name x px,iter,ifs,0⟩] scope pos) (aN cs src tst fe) :=
 (qv (cs:=cs) (src:=src) (tst:=tst) (fe:=fe)) ▸ jW X.env.scope X.N [x] [0] cs rfl rfl (jw hok) hcl hc (sA _) hi (fun C s H fp=>fgA C s H fp hnd rfl hl) helt hifs hs
theorem Db (hi:FIG X (.Name x px) iter src) (helt:∀ C s H fp,FE (ai X (x :: cs.map (·.1)) scope C s H fp) elt fe) (hifs:∀ C s H fp,lP (ai X (x :: cs.map (·.1)) scope C s H fp) ifs tst)
 (hok:td X.env.scope scope cs X.N=e_:=by kernel_rfl) (hcl:G8 scope X.env=pure (gH scope.names X.env []):=by kernel_rfl) (hc:X.calm=e_:=by kernel_rfl) (hnd:ndB (x :: cs.map (·.1))=e_:=by kernel_rfl) (hl:ia scope x=e_:=by kernel_rfl)
 (hs:∀ x,FR iter X.env x=pure x:=by intro _; kernel_rfl):FE X (.ListComp elt [⟨.Name x px,iter,ifs,0⟩] scope pos) (bj 1 cs src (gN 0) tst fe) :=
 jW X.env.scope X.N [x] [0] cs rfl rfl (jw hok) hcl hc (sA _) hi (fun C s H fp=>fgA C s H fp hnd rfl hl) helt hifs hs
theorem Dc (hi:FIG X (.Name x px) iter src) (helt:∀ C s H fp,FE (ai X (x :: cs.map (·.1)) scope C s H fp) elt fe) (hifs:∀ C s H fp,lP (ai X (x :: cs.map (·.1)) scope C s H fp) ifs tst)
 (hN:ndB X.N=e_) (hiy:X.N[i]?=a_ y) (hxy:ia X.env.scope y=e_) (hfy:X.fn y=e_)
 (hok:td X.env.scope scope cs X.N=e_) (hcl:G8 scope X.env=pure (gH scope.names X.env [])) (hc:X.calm=e_) (hnd:ndB (x :: cs.map (·.1))=e_) (hl:ia scope x=e_)
 (hsw:G7 (.ListComp elt [⟨.Name x px,iter,ifs,0⟩] scope pos) (a_ (.Name y py)) spos.line X.env=pure e_)
 (hs:∀ x,FR iter X.env x=pure x):PS X (.Assign [.Name y py] (.ListComp elt [⟨.Name x px,iter,ifs,0⟩] scope pos) spos) (tC X i (bj 1 cs src (gN 0) tst fe)) :=
 nv i (h8 hN) hiy (fK hxy) (.inl hfy) X.env.scope X.N [x] [0] cs rfl rfl (jw hok) hcl hc (sA _) hi (fun C s H fp=>fgA C s H fp hnd rfl hl) helt hifs hsw hs
theorem Dd (hi:FIG X (.Name x px) iter src) (helt:∀ C s H fp,FE (ai X (x :: cs.map (·.1)) scope C s H fp) elt fe) (hifs:∀ C s H fp,lP (ai X (x :: cs.map (·.1)) scope C s H fp) ifs tst)
 (hsw:G7 (.ListComp elt [⟨.Name x px,iter,ifs,0⟩] scope pos) (a_ (.Name y py)) spos.line X.env=pure e_)
 (hN:ndB X.N=e_:=by kernel_rfl) (hiy:X.N[i]?=a_ y:=by kernel_rfl) (hxy:ia X.env.scope y=e_:=by kernel_rfl) (hfy:X.fn y=e_:=by kernel_rfl)
 (hok:td X.env.scope scope cs X.N=e_:=by kernel_rfl) (hcl:G8 scope X.env=pure (gH scope.names X.env []):=by kernel_rfl) (hc:X.calm=e_:=by kernel_rfl) (hnd:ndB (x :: cs.map (·.1))=e_:=by kernel_rfl) (hl:ia scope x=e_:=by kernel_rfl)
 (hs:∀ x,FR iter X.env x=pure x:=by intro _; kernel_rfl):FS X (.Assign [.Name y py] (.ListComp elt [⟨.Name x px,iter,ifs,0⟩] scope pos) spos) (br i (bj 1 cs src (gN 0) tst fe)) :=
 qw (Dc hi helt hifs hN hiy hxy hfy hok hcl hc hnd hl hsw hs) kT
theorem Em {N:List Str} (C:i_) (s:ge) (H:Hp) (fp:List i_) (hc:X.calm=e_) (hnd:ndB N=e_) (hx:N[0]?=a_ x) (hz:N[1]?=a_ z) (hl:ia scope x=e_) (hl2:ia scope z=e_)
 (a1:(Gz [.Name x px,.Name z py] (ai X N scope C s H fp).env).map (·.2)=Kl (.Name x px) (ai X N scope C s H fp).env :: (Gz [.Name z py] (ai X N scope C s H fp).env).map (·.2)) (a2:(Gz [.Name z py] (ai X N scope C s H fp).env).map (·.2)=Kl (.Name z py) (ai X N scope C s H fp).env :: (Gz [] (ai X N scope C s H fp).env).map (·.2))
 (a3:(Gz [.Name x px,.Name z py] (ai X N scope C s H fp).env).length=2) (a4:(Gz [.Name x px,.Name z py] (ai X N scope C s H fp).env).findIdx? (·.1)=ck):FG (ai X N scope C s H fp) (.Tuple [.Name x px,.Name z py] k pt) (gP 0 1) :=
 vN 0 1 hc (h8 hnd) hx (fgL hl).1 (fgL hl).2 hz (fgL hl2).1 (fgL hl2).2 a1 a2 a3 a4
theorem De (hi:FIG X (.Tuple [.Name x px,.Name z py] k pt) iter src) (helt:∀ C s H fp,FE (ai X (x :: z :: cs.map (·.1)) scope C s H fp) elt fe) (hifs:∀ C s H fp,lP (ai X (x :: z :: cs.map (·.1)) scope C s H fp) ifs tst)
 (hok:td X.env.scope scope cs X.N=e_:=by kernel_rfl) (hcl:G8 scope X.env=pure (gH scope.names X.env []):=by kernel_rfl) (hc:X.calm=e_:=by kernel_rfl) (hnd:ndB (x :: z :: cs.map (·.1))=e_:=by kernel_rfl) (hl:ia scope x=e_:=by kernel_rfl) (hl2:ia scope z=e_:=by kernel_rfl)
 (hs:∀ x,FR iter X.env x=pure x:=by intro _; kernel_rfl):FE X (.ListComp elt [⟨.Tuple [.Name x px,.Name z py] k pt,iter,ifs,0⟩] scope pos) (bj 2 cs src (gP 0 1) tst fe) :=
 jW X.env.scope X.N [x,z] [0,1] cs rfl rfl (jw hok) hcl hc (zh _) hi (fun C s H fp=>Em C s H fp hc hnd rfl rfl hl hl2 rfl rfl rfl rfl) helt hifs hs
theorem Df {p2:Pos} (hi:FIG X (.Tuple [.Name x px,.Name z p2] k pt) iter src) (helt:∀ C s H fp,FE (ai X (x :: z :: cs.map (·.1)) scope C s H fp) elt fe) (hifs:∀ C s H fp,lP (ai X (x :: z :: cs.map (·.1)) scope C s H fp) ifs tst)
 (hsw:G7 (.ListComp elt [⟨.Tuple [.Name x px,.Name z p2] k pt,iter,ifs,0⟩] scope pos) (a_ (.Name y py)) spos.line X.env=pure e_)
 (hN:ndB X.N=e_:=by kernel_rfl) (hiy:X.N[i]?=a_ y:=by kernel_rfl) (hxy:ia X.env.scope y=e_:=by kernel_rfl) (hfy:X.fn y=e_:=by kernel_rfl)
 (hok:td X.env.scope scope cs X.N=e_:=by kernel_rfl) (hcl:G8 scope X.env=pure (gH scope.names X.env []):=by kernel_rfl) (hc:X.calm=e_:=by kernel_rfl) (hnd:ndB (x :: z :: cs.map (·.1))=e_:=by kernel_rfl) (hl:ia scope x=e_:=by kernel_rfl) (hl2:ia scope z=e_:=by kernel_rfl)
 (hs:∀ x,FR iter X.env x=pure x:=by intro _; kernel_rfl):FS X (.Assign [.Name y py] (.ListComp elt [⟨.Tuple [.Name x px,.Name z p2] k pt,iter,ifs,0⟩] scope pos) spos) (br i (bj 2 cs src (gP 0 1) tst fe)) :=
 qw (nv i (h8 hN) hiy (fK hxy) (.inl hfy) X.env.scope X.N [x,z] [0,1] cs rfl rfl (jw hok) hcl hc (zh _) hi (fun C s H fp=>Em C s H fp hc hnd rfl rfl hl hl2 rfl rfl rfl rfl) helt hifs hsw hs) kT
end
section
variable {X:Cx} {N:List Str} {scope:GK} {c:C_} {t:FnB}
theorem tj:∀ C s H fp,lP (ai X N scope C s H fp) [] ck:=fun _ _ _ _=>rfl
theorem tq (h:∀ C s H fp,FT (ai X N scope C s H fp) c t):∀ C s H fp,lP (ai X N scope C s H fp) [c] (a_ t):=fun C s H fp=>⟨_,rfl,h C s H fp⟩
end
section
variable {X:Cx} {a b c e st ix tg iter:C_} {fa fb fs fi:FnE} {pos p2 pos' py apos cpos pt p1 lp ps:Pos} {i j k kk:Nat} {js:List Nat} {x y:Str} {src g:FnA} {fS:FnS} {fO:iZ} {body sts:List GT} {es:List C_} {is:List Nat}
theorem z8 (ha:FE X a fa) (hb:FE X b fb) (hs:∀ o i,ME b f_ o i=operate [o,i] (KM o i):=by intro _ _; kernel_rfl):FE X (.Subscript a b pos) (f2 ixD fa fb):=Cq ha hb hs
theorem qK (ha:FE X a fa) (hst:FE X st fs) (hv:∀ ρ,fs ρ=a_ (.ok (.int (-1))):=by intro _; kernel_rfl):FE X (.Subscript a (.Slice ck ck (a_ st) p2) pos) (iG fa):=nk ha hst hv
theorem wn (he:FE X e fa) (hN:ndB X.N=e_:=by kernel_rfl) (hi:X.N[i]?=a_ x:=by kernel_rfl) (hx:ia X.env.scope x=e_:=by kernel_rfl) (hf:X.fn x=e_:=by kernel_rfl) (hs:G7 e (a_ (.Name x pos')) pos.line X.env=pure f_:=by kernel_rfl):FS X (.Assign [.Name x pos'] e pos) (br i fa) :=
 yL i (h8 hN) hi (fK hx) he hs (.inl hf)
theorem wo (he:FE X e fa) (hex:X.ex=[]:=by kernel_rfl) (hij:Hz i j=f_:=by kernel_rfl) (hN:ndB X.N=e_:=by kernel_rfl) (hi:X.N[j]?=a_ x:=by kernel_rfl) (hx:ia X.env.scope x=e_:=by kernel_rfl) (hf:X.fn x=e_:=by kernel_rfl) (hs:G7 e (a_ (.Name x pos')) pos.line X.env=pure f_:=by kernel_rfl):FO1 X i (.Assign [.Name x pos'] e pos) (gs j fa) :=
 zA hex j (G9 hij) (h8 hN) hi (fK hx) he hs (.inl hf)
theorem tw (hg:FA X es g) (hr:FOs X i sts fO) (hN:ndB X.N=e_:=by kernel_rfl) (hi:X.N[i]?=a_ x:=by kernel_rfl) (hx:ia X.env.scope x=e_:=by kernel_rfl) (hf:X.fn x=e_:=by kernel_rfl) (hs:G7 (.List es lp) (a_ (.Name x pos')) pos.line X.env=pure f_:=by kernel_rfl):FSs X (.Assign [.Name x pos'] (.List es lp) pos :: sts) (xH i g fO) :=
 v4 (h8 hN) hi (fK hx) hg hr hs (.inl hf)
theorem wp (hp:Lv (x_ X.prog X.w) X.A X.env X.xe) (hi:FI X (.Name x py) iter src) (hb:FSs X body fS) (hc:X.calm=e_:=by kernel_rfl) (hN:ndB X.N=e_:=by kernel_rfl) (hx:X.N[i]?=a_ x:=by kernel_rfl) (hl:ia X.env.scope x=e_:=by kernel_rfl) (hf:X.fn x=e_:=by kernel_rfl)
 (hs:∀ x,FR iter X.env x=pure x:=by intro _; kernel_rfl):FS X (.For (.Name x py) iter body [] pos) (sf i js src fS) :=
 yP i js hp hc hi (gF (h8 hN) hx (fK hl) (.inl hf)) hb hs
theorem wq (hp:Lv (x_ X.prog X.w) X.A X.env X.xe) (hi:FI X (.Name x py) iter src) (hb:FOs X i body fO) (hex:X.ex=[]:=by kernel_rfl) (hij:Hz i j=f_:=by kernel_rfl) (hc:X.calm=e_:=by kernel_rfl) (hN:ndB X.N=e_:=by kernel_rfl) (hx:X.N[j]?=a_ x:=by kernel_rfl) (hl:ia X.env.scope x=e_:=by kernel_rfl) (hf:X.fn x=e_:=by kernel_rfl)
 (hs:∀ x,FR iter X.env x=pure x:=by intro _; kernel_rfl):FO1 X i (.For (.Name x py) iter body [] pos) (v6 j js src fO) :=
 zE hex j js (G9 hij) hp hc hi (gF (h8 hN) hx (fK hl) (.inl hf)) hb hs
theorem wt (hN:X.N[i]?=a_ x) (hv:ia X.env.scope x=e_) (hd:(x == ("__debug__":Str))=f_) (hcd:(x == ("__classdict__":Str))=f_):PE X (.Name x pos) (xU i):=oV hN ((fK hv).elim .inl fun h=>.inr (.inl h)) hd hcd
theorem wu (he:FE X e fa) (hx:PE X (.Name x apos) (xU i)) (hex:X.ex=[]:=by kernel_rfl)
 (hbase:HY (.Name x apos) "append" X.env (eval (.Name x apos) X.env)=eval (.Name x apos) X.env:=by kernel_rfl)
 (hfew:((FP cpos (h_ [e] X.env)).all (fun x=>!x.1) && (Ho cpos (GB [] X.env)).all (fun x=>x.1.isSome)
   && t_ ([e].length + ([]:List Hy).length + (if ([]:List Hy).isEmpty then 0 else 1) < 30))=e_:=by kernel_rfl)
 (hline:(pt.endLine == cpos.line)=e_:=by kernel_rfl) (hs:h_ [e] X.env=(f_,eval e X.env) :: h_ [] X.env:=by kernel_rfl) (hplain:(FP cpos (h_ [] X.env)).any (·.1)=f_:=by kernel_rfl)
 (hsw:G7 (.Call (.Attribute (.Name x apos) "append" pt) [e] [] cpos) ck pos.line X.env=pure f_:=by kernel_rfl):FO1 X i (.Expr (.Call (.Attribute (.Name x apos) "append" pt) [e] [] cpos) pos) (xG fa):=zD hex hx he hbase hfew hline hs hplain hsw
end
section
variable {X:Cx} {o e:C_} {es:List C_} {fo:FnE} {ga:FnA} {apos cpos pos:Pos} {name:Str}
structure SmL (X:Cx) (o:C_) (name:Str) (e:C_) (es:List C_) (apos cpos:Pos):Prop where
 base:HY o name X.env (eval o X.env)=eval o X.env
 few:((FP cpos (h_ (e :: es) X.env)).all (fun x=>!x.1) && (Ho cpos (GB [] X.env)).all (fun x=>x.1.isSome)
  && t_ ((e :: es).length + ([]:List Hy).length + (if ([]:List Hy).isEmpty then 0 else 1) < 30))=e_
 line:(apos.endLine == cpos.line)=e_
 s:h_ (e :: es) X.env=(f_,eval e X.env) :: h_ es X.env
 plain:(FP cpos (h_ es X.env)).any (·.1)=f_
theorem lZ {id:String} {r:V→List V→Hp→VK→Prop} {g:Str→List Dv→Option (Rs Dv)} (slot:Slot "str" name id) (hty:typeOf (.builtin id)=pure (.type "method_descriptor")) (hm:MtR X id r)
 (hg:∀ i ds vs H Q,Reps X.K H ds vs→Out X H (g i ds) Q→r (.str i) vs H Q) (ho:FE X o fo) (ha:FA X (e :: es) ga) (h:SmL X o name e es apos cpos):FE X (.Call (.Attribute o name apos) (e :: es) [] cpos) (fM g fo ga) :=
 vH slot hty hm hg ho ha h.base h.few h.line h.s h.plain
end
section
open PySem.W
structure CA (K:c_) (mg:Str→Option d_) (cls:Nat→i_) (CJ:i_) (S:List Nat) (m:Nat):Prop where
 at_:∀ c∈S,mg (xnm c)=a_ (.ref (cls c))
 j:mg "JarError"=a_ (.ref CJ)
 xk:∀ c C,c < m→nsIn K rl (xnm c)=a_ (a_ (.ref C))→excIn K C bmV "ValueError.__new__"=e_∧mroIn K C (.ref CJ)=a_ e_
theorem CA.c {K:c_} {mg:Str→Option d_} {cls:Nat→i_} {CJ:i_} {S:List Nat} {m c:Nat} {x:Str} (h:CA K mg cls CJ S m) (hc:c∈S) (hx:xnm c=x):mg x=a_ (.ref (cls c)):=by
 subst hx
 exact h.at_ c hc
def nsB (K:c_) (x:Str) (a:i_):Bool:=match nsIn K rl x with
 | some (a_ (.ref b))=>Hz a b
 | _=>f_
theorem uJ {K:c_} {x:Str} {a:i_} (h:nsB K x a=e_):nsIn K rl x=a_ (a_ (.ref a)):=by
 unfold nsB at h
 split at h
 · rename_i b e
   rw [e,FN h]
 · cases h
def caB (K:c_) (S:List Nat) (Cs:List i_) (CJ:i_) (m:Nat):Bool:=S.all (fun c=>nsB K (xnm c) (Cs.getD c 0)) && nsB K "JarError" CJ && CP K S Cs CJ && (pi m).all fun c=>S.contains c || (match nsIn K rl (xnm c) with | some ck=>e_ | _=>f_)
theorem Dg {K:c_} {mg:Str→Option d_} {h:FF} {S:List Nat} {Cs:List i_} {CJ:i_} {m:Nat} (X:K.In h) (G:h.Ns rl mg) (e:caB K S Cs CJ m=e_):XAllS K S (fun c=>Cs.getD c 0) CJ∧CA K mg (fun c=>Cs.getD c 0) CJ S m:=by
 unfold caB at e
 rw [l_,l_,l_] at e
 obtain ⟨⟨⟨e1,e2⟩,e3⟩,e4⟩:=e
 have hn:∀ c∈S,nsIn K rl (xnm c)=a_ (a_ (.ref (Cs.getD c 0))):=fun c hc=>uJ (Gy.1 e1 c hc)
 have xa:=sS hn e3
 refine ⟨xa,fun c hc=>mg_of X G (hn c hc),mg_of X G (uJ e2),fun c C hc q=>?_⟩
 have h1:=Gy.1 e4 c (Gr.2 hc)
 rw [Bool.or_eq_true] at h1
 rcases h1 with h1 | h1
 · have h':c∈S:=by simpa using h1
   rw [xa.same h' q]
   exact ⟨(xa.at_ c h').2.1,(xa.at_ c h').2.2.2.1⟩
 · rw [q] at h1
   cases h1
end
noncomputable abbrev nsM (K:c_) (x:Str):Option (Option d_):=GY K rl x
structure Af (K:c_) (x:Str) (st:GT) (f:i_):Prop where
 a:nsM K x=a_ (a_ (.ref f))
 F:∃ fd,Fun K x x st f fd
 k:F4 K (.ref f)=e_
def fnB (N P:List Str) (sc:GK):Bool:=t_ (sc.kind=.function) && !sc.isCoroutine && !sc.isGenerator && ndB N && t_ (N.take P.length=P) && P.all (ia sc) && t_ (∀ y∈sc.names,y.2≠.free)
theorem wv {N P:List Str} {sc:GK} (h:fnB N P sc=e_):cK N P sc:=by
 unfold fnB at h
 simp only [l_,decide_eq_true_eq,Ib] at h
 exact ⟨h.1.1.1.1.1.1,h.1.1.1.1.1.2,h.1.1.1.1.2,h8 h.1.1.1.2,h.1.1.2,fun x hx=>fK (Gy.1 h.1.2 x hx),h.2⟩
section
variable {P:n_} {w:y_} {K:c_} {mg:Str→Option d_} {base:FF} {h:FF} {k:Nat} {x:Str} {st:GT} {f:i_} {F:List Dv→Option (Rs Dv)}
def z9 (x:Str) (st:GT) (ps:List Str):Prop:=∀ (kV doc pm:d_) (an:Option i_) (cdv ct:d_) (us:List d_),us.length=ps.length→Lf (HN x x (gG st) (bA st) (al st) .none kV doc pm an cdv ct) ⟨us,[]⟩=pure (ps.zip us)
theorem aE (XI:K.In h) (Gn:h.Ns rl mg) (N ps:List Str) (fb:FnS) (A:Af K x st f) (hbd:z9 x st ps)
 (hb:∀ (cdv:d_) (A:w_) (outer:List Env) (s:ge) (H:Hp) (E:XK),Room k (A.deeper (Hh x (al st) s.heap.objs.size f cdv))→FSs (iY CX0 P w K mg base N x (al st) f cdv A outer s H E).nox (bA st) fb) (hF:F=aY N.length fb:=by kernel_rfl) (hs:fnB N ps (al st)=e_:=by kernel_rfl):Has P w K mg base x (k + 1) ps F :=
 let ⟨_,Fn⟩:=A.F
 ⟨_,_,yQ N ps fb hF rfl Fn (wv hs) hb,G_ XI Gn A.a,A.k,Fn.binds hbd⟩
theorem iJ (XI:K.In h) (Gn:h.Ns rl mg) (N ps:List Str) (fb:FnS) (A:Af K x st f) (hbd:z9 x st ps)
 (hb:∀ (cdv:d_) (A:w_) (outer:List Env) (s:ge) (H:Hp) (E:XK),Room k (A.deeper (Hh x (al st) s.heap.objs.size f cdv))→FSs (iY (CXE P w) P w K mg base N x (al st) f cdv A outer s H E) (bA st) fb) (hF:F=gK N.length fb:=by kernel_rfl) (hs:fnB N ps (al st)=e_:=by kernel_rfl):Bw P w K mg base x (k + 1) ps F :=
 let ⟨_,Fn⟩:=A.F
 ⟨_,_,zl N ps fb hF rfl Fn (wv hs) hb,G_ XI Gn A.a,A.k,Fn.binds hbd⟩
theorem ww (XI:K.In h) (Gn:h.Ns rl mg) (N ps:List Str) (fb:FnS) (A:Af K x st f) (hbd:z9 x st ps)
 (hb:∀ (cdv:d_) (A:w_) (outer:List Env) (s:ge) (H:Hp),RoomM k (A.deeper (Hh x (al st) s.heap.objs.size f cdv))→FSs (cxM P w K mg base N x (al st) f cdv A outer s H) (bA st) fb) (hF:F=aY N.length fb:=by kernel_rfl) (hs:fnB N ps (al st)=e_:=by kernel_rfl):Bx P w K mg base x (k + 1) ps F :=
 let ⟨_,Fn⟩:=A.F
 ⟨_,_,zq N ps fb hF Fn (wv hs) hb,G_ XI Gn A.a,A.k,Fn.binds hbd⟩
end
section
theorem wx {X:Cx} {pl:List (i_×Obj)} {e:i_} {k:Nat} (h:Room k X.A):RoomM k (kJ X pl e).A:=⟨h.dp,h.un⟩
end
end FD
namespace TS
open PySem PySem.Spec PyProof.Rows L2 FD
def Dh (p q:d_) (e l:Bool):Prop:=∀ (prog:n_) (w:y_) (A:w_) (E:d_→ge→Prop) (s:ge),
 (∀ Q:Bool→ge→Prop,Q e s→u_ (x_ prog w) A (eqBool p q) Q E s)∧(∀ Q:d_→ge→Prop,Q (.bool l) s→u_ (x_ prog w) A (richCompare .Gt p q) Q E s)
inductive qM:List (d_×d_)→List (Bool×Bool)→Prop
 | nil:qM [] []
 | cons {p q:d_} {e l:Bool} {ps:List (d_×d_)} {rs:List (Bool×Bool)}:Dh p q e l→qM ps rs→qM ((p,q) :: ps) ((e,l) :: rs)
section
open PySem.SeqAt
open PySem.AutoSeq1 (wpAny_loadPart')
open PySem.MeetsSeq PySem.MeetsSeq2 PySem.MeetsSeq3
end
end TS
namespace FD
open PySem PySem.Spec PyProof.Rows L2 TS
section
variable {X:Cx}
end
end FD
namespace TS
open PySem PyProof.Rows FD
section
variable {prog:n_} {w:y_} {A:w_} {E:d_→ge→Prop} {s:ge} {blt:Nat→Nat→Bool}
theorem Di {a kS:i_} {e1 c:Nat} {its vs:List d_} {ks:List Int} {P:Mx→ge→Prop} (hk:s.heap.get? kS=a_ (Gw "list" its.toArray c)) (ha:s.heap.get? a=a_ (Gw "list" #[] e1)) (hne:kS≠a) (hlen:its.length=vs.length) (h64:vs.length < 64) (O:Od blt)
 (hI:Ke its ks) (hB:∀ i j x y,ks[i]?=a_ x→ks[j]?=a_ y→blt i j=t_ (x < y))
 (h:∀ (p:Nat→Nat) (out:Array d_) (tk:Nat),out.size=vs.length→(∀ k,k < vs.length→out[k]?=vs[p k]?)→(pi vs.length).map p=dv (fun i j=>!blt j i) (pi vs.length)→(∀ k,k < vs.length→p k < vs.length) →
   P (.done (.ret .none)) { s with heap:=(s.heap.update kS (Gc fun _=>#[])).update a (Gc fun _=>out),toks:=tk }) :
 u_ (x_ prog w) A (ksk_end a f_ vs.toArray e1 (.ref kS) its.toArray) P E s:=by
 unfold ksk_end
 simp only [B_,if_false]
 have hz:its.toArray.size≤sizeLine:=fJ (by simp; omega)
 have pz:(its.toArray.zip vs.toArray).size=vs.length:=by simp [hlen]
 have pat:∀ k,k < vs.length→(its.toArray.zip vs.toArray)[k]?=a_ (its.getD k .none,vs.getD k .none):=fun k hk=>by
  have:k < its.length:=by omega
  have hz':k < (its.zip vs).length:=by simp; omega
  have e:(its.zip vs)[k]?=a_ (its[k],vs[k]):=by rw [xy hz',List.getElem_zip]
  simp [hk,this,IM,e]
 have hsz:vs.toArray.size=vs.length:=by simp
 by_cases h2:vs.toArray.size < 2
 · rw [if_pos h2,if_pos h2]
   refine g_ (j_ ?_)
   rw [MG]
   refine g_ (j_ ?_)
   dsimp only
   refine uI (st:=SortSt.mk' general' (its.toArray.zip vs.toArray) #[] 7 ck) hk ha hne hz (fJ (by rw [pz]; exact h64)) rfl ?_
   have:=h id ((its.toArray.zip vs.toArray).map (·.2)) s.toks (by rw [I_,pz]) (fun k hk=>by
    rw [LX,pat k hk]
    simp [hk,IM]) (kX O (fun k hk=>hk) (fun _ _ _ _ e=>e) (fun x y hxy hy=>by rw [hsz] at h2; omega)) (fun k hk=>hk)
   exact this
 · rw [if_neg h2,if_neg h2]
   rw [hsz] at h2
   have ekk:keyKind' its.toArray=pure oneType':=by
    match its,hI,hlen with
    | [],_,hl=>simp at hl; omega
    | [v],_,hl=>simp at hl; omega
    | v1 :: v2 :: r,hI,_=>exact keyKind_ints hI
   rw [ekk]
   refine g_ (j_ ?_)
   refine g_ (FU (zY (J:=JT s s.heap) (E:=E) (Q:=fun _ st'=>∃ p',CZ (its.toArray.zip vs.toArray) blt p' (Jv st')∧Mc st'=ck) (p:=id) O
    (fun i j x y s1 E' ex ey J1=>?_)
    (st:=SortSt.mk' oneType' (its.toArray.zip vs.toArray) #[] 7 ck) ⟨rfl,fun _ _=>rfl,fun _ h=>h,fun _ _ _ _ e=>e,rfl,rfl,rfl⟩ (fun _ _=>rfl) (by rw [pz]; omega) (by rw [pz]; exact h64) (fun p' st' a1 a2=>⟨p',a1,a2⟩) s ⟨s.toks,m_ _,rfl⟩) ?_ fun _ _ e=>e)
   · have at1:∀ (k:Nat) (z:Md),(its.toArray.zip vs.toArray)[k]?=a_ z→its[k]?=a_ z.1:=fun k z hz=>by
      have hk:k < vs.length:=by
       have:=(Gu.mp hz).1
       rwa [pz] at this
      rw [pat k hk] at hz
      cases hz
      have:k < its.length:=by omega
      simp [this,IM]
     have gi:=at1 i x ex
     have gj:=at1 j y ey
     have li:i < ks.length:=by have:=(E_.mp gi).1; have:=hI.length; omega
     have lj:j < ks.length:=by have:=(E_.mp gj).1; have:=hI.length; omega
     obtain ⟨t,ht⟩:=hI.get i ks[i] (xy li)
     obtain ⟨u,hu⟩:=hI.get j ks[j] (xy lj)
     rw [ht] at gi
     rw [hu] at gj
     have e1:=F0 gi
     have e2:=F0 gj
     rw [keyLt'_oneType,← e1,← e2]
     exact oneLt_int ⟨J1,(hB i j _ _ (xy li) (xy lj)).symm⟩
   · rintro ⟨⟨⟩,st'⟩ s' ⟨⟨tk,_,rfl⟩,p',F,hfl⟩
     dsimp only
     have Fl:=F.lt
     have Fi:=F.inj
     have Fs:=F.so
     rw [pz] at Fl Fi Fs
     refine uI (s:={ s with heap:=s.heap,toks:=tk }) hk ha hne hz (by rw [F.sz,pz]; exact fJ h64) hfl ?_
     refine h p' ((Jv st').map (·.2)) tk (by rw [I_,F.sz,pz]) (fun k hk=>?_) (kX O Fl Fi Fs) Fl
     rw [LX,F.at' k (by rw [pz]; exact hk),pat _ (Fl k hk)]
     simp [Fl k hk,IM]
end
end TS
namespace FD
open PySem PySem.Spec PyProof.Rows L2 TS
def eN (F:List Dv→Option (Rs Dv)):List Dv→Option (List Int)
 | []=>a_ []
 | d :: r=>match F [d],eN F r with
  | some (.ok (.int k)),a_ ks=>a_ (k :: ks)
  | _,_=>ck
def fR (ks:List Int) (ds:List Dv):List Dv:=(dv (fun a b=>!t_ (b.1 < a.1)) (ks.zip ds)).map Prod.snd
def ou (F:List Dv→Option (Rs Dv)):List Dv→Option (Rs Dv)
 | [.lst ds]=>match eN F ds with
  | some ks=>if ks.length < 64∧imms ds=e_ then a_ (.ok (.lst (fR ks ds))) else ck
  | none=>ck
 | _=>ck
theorem gO {F:List Dv→Option (Rs Dv)}:∀ {ds:List Dv} {ks:List Int},eN F ds=a_ ks→ks.length=ds.length∧∀ (i:Nat) (d:Dv),ds[i]?=a_ d→∃ k,ks[i]?=a_ k∧F [d]=a_ (.ok (.int k))
 | [],ks,h=>by cases h; exact ⟨rfl,fun i d e=>by simp at e⟩
 | d :: ds,ks,h=>by
  unfold eN at h
  split at h
  · rename_i k rs h1 h2
    cases h
    obtain ⟨g1,g2⟩:=gO h2
    refine ⟨by simp [g1],fun i d' e=>?_⟩
    cases i with
    | zero=>simp at e; subst e; exact ⟨k,rfl,h1⟩
    | succ i=>exact g2 i d' (by simpa using e)
  · cases h
def rN (ks:List Int) (i j:Nat):Bool:=t_ (ks.getD i 0 < ks.getD j 0)
theorem wy (ks:List Int):Od (rN ks) where
 ir:=fun a=>by simp [rN]
 tr:=fun a b c h h'=>by simp only [rN,decide_eq_true_eq] at *; omega
 nt:=fun a b c h=>by simp only [rN,decide_eq_true_eq] at *; omega
theorem ov {ks:List Int} {ds:List Dv} (hl:ks.length=ds.length):(dv (fun i j=>!rN ks j i) (pi ds.length)).map (fun i=>ds.getD i .non)=fR ks ds:=by
 have e:(pi ds.length).map (fun i=>(ks.getD i 0,ds.getD i .non))=ks.zip ds:=by
  apply List.ext_getElem
  · simp [hl]
  · intro i h1 h2
    simp only [Gb,IZ] at h1
    have h1':i < ks.length:=by omega
    simp [IM,h1,h1']
 unfold fR
 rw [← e,← jV (le:=fun i j=>!rN ks j i) (fun i=>(ks.getD i 0,ds.getD i .non)) _ fun x _ y _=>rfl,Io]
 rfl
structure BB (X:Cx) (A':w_) (f:i_) (pn:List (i_×Obj)) (H0:Hp) (F:List Dv→Option (Rs Dv)):Prop where
 run:∀ (pins:List (i_×Obj)) (σ:L2.St) (H:Hp) (s:ge) (v:V) (u:d_) (d d':Dv) (E:d_→ge→Prop),(∀ p∈pn,p∈pins)→Same H0 H→Inv X pins σ H s→RelV v u→Rep X.K H d v→F [d]=a_ (.ok d') →
  u_ (x_ X.prog X.w) A' (call (.ref f) [u]) (EP X pins σ fun v' H'=>Same H H'∧Rep X.K H' d' v') E s
theorem jx:∀ l:List Int,imms (l.map Dv.int)=e_
 | []=>rfl
 | i :: l=>by show (imm (.int i) && imms (l.map Dv.int))=e_; rw [jx l]; rfl
theorem iK:∀ l:List Int,kU (l.map Dv.int)=a_ l
 | []=>rfl
 | i :: l=>by
  show (kU (l.map Dv.int)).map (i :: ·)=_
  rw [iK l]
  rfl
section
variable {X:Cx} {pins pn:List (i_×Obj)} {σ:L2.St} {H H0:Hp} {s:ge} {f:i_} {F:List Dv→Option (Rs Dv)} {A':w_} {E:d_→ge→Prop}
theorem Aa {a kS:i_} {e1:Nat} {vs:List d_} {ws:List V} {ds:List Dv} {ks:List Int} {P:Mx→ge→Prop} (R:BB X A' f pn H0 F) (hpn:∀ p∈pn,p∈pins) (hS:∀ b u,b≠kS→H0 b=a_ u→H b=a_ u) (h0k:H0 kS=ck)
 (I:Inv X (pins ++ [(a,Gw "list" #[] e1)]) σ H s) (hk:H kS=a_ (.lst [])) (hne:kS≠a) (rv:Vals ws vs) (rw':Reps X.K H ds ws) (im:imms ds=e_)
 (hkey:∀ (i:Nat) (d:Dv),ds[i]?=a_ d→∃ k,ks[i]?=a_ k∧F [d]=a_ (.ok (.int k))) (hlen:ks.length=ds.length) (hok:ks.length < 64) (fpa:∀ H',H' a=ck→mG X pins H' a)
 (h:∀ (s':ge) (H':Hp) (p:Nat→Nat) (out:Array d_) (c:Nat),Inv X pins σ H' s'→H' a=ck→(∀ b u,b≠kS→H b=a_ u→H' b=a_ u)→s'.heap.get? a=a_ (Gw "list" out c)→out.size=vs.length→(∀ k,k < vs.length→out[k]?=vs[p k]?) →
   (pi vs.length).map p=dv (fun i j=>!rN ks j i) (pi vs.length)→(∀ k,k < vs.length→p k < vs.length)→P (.done (.ret .none)) s') :
 u_ (x_ X.prog X.w) A' (ksk_rest a (.ref f) f_ vs.toArray e1 (.ref kS)) P E s:=by
 have hl2:ds.length=vs.length:=by have g1:=dJ rw'; have g2:=rv.length; omega
 have h64:vs.length < 64:=by omega
 have imk:=jx ks
 unfold ksk_rest
 refine g_ (KH ?_)
 first
  | rw [List.forIn_toArray]
  | (rw [← IF]; simp only [Jw])
  | rw [← IF]
 refine g_ (ksk_fold (fun i s'=>∃ H' zs,Inv X (pins ++ [(a,Gw "list" #[] e1)]) σ H' s'∧H' kS=a_ (.lst zs)∧(∀ b u,b≠kS→H b=a_ u→H' b=a_ u)∧Reps X.K H' ((ks.map Dv.int).take i) zs) vs 0 s ⟨H,[],I,hk,fun _ _ _ e=>e,rfl⟩ ?step ?done)
 case step =>
  rintro j x s' hx ⟨H',zs,I',hk',sm,rz⟩
  simp only [Ik] at rz ⊢
  have hj:j < vs.length:=(E_.mp hx).1
  have hjd:ds[j]?=a_ (ds[j]'(by omega)):=xy (by omega)
  obtain ⟨es,er,eF⟩:=hkey j _ hjd
  have hjw:ws[j]?=a_ (ws[j]'(by have:=rv.length; omega)):=xy (by have:=rv.length; omega)
  have hjl:j < ws.length:=by have:=rv.length; omega
  have hjl2:j < ds.length:=by omega
  obtain ⟨u,eu,ru⟩:=rv.get hjw
  rw [hx] at eu
  cases eu
  have tupk:∀ b ys,H b=a_ (.tup ys)→H' b=a_ (.tup ys):=fun b ys q=>sm b _ (fun z=>by rw [z,hk] at q; cases q) q
  have rd:Rep X.K H' ds[j] ws[j]:=Rep.tups tupk _ _ (jS im hjd) (lW rw' j _ _ hjd hjw)
  have hS':Same H0 H':=fun b u q=>sm b u (fun z=>by rw [z,h0k] at q; cases q) (hS b u (fun z=>by rw [z,h0k] at q; cases q) q)
  refine g_ (Kj (FU (R.run _ _ _ _ _ _ _ _ (fun _ _=>False) (fun p hp=>FH _ (hpn p hp)) hS' I' ru rd eF) (fun u' s2 he=>?_) fun _ _ z=>z.elim))
  obtain ⟨v',H2,I2,rv2,sm2,rp2⟩:=he
  dsimp only
  have hk2:H2 kS=a_ (.lst zs):=sm2 _ _ hk'
  obtain ⟨z,its,n,rvk,hlk,ek⟩:=I2.lstM hk2
  have hzl:zs.length≤62:=by have:=dJ rz; simp at this; omega
  have hil:its.length≤62:=by have:=rvk.length; omega
  refine g_ (Jj ek rfl ?_ (by simp; exact fJ (by omega)) (by simp; omega))
  have tup2:∀ b ys,H2 b=a_ (.tup ys)→(upd H2 kS (.lst (zs ++ [v']))) b=a_ (.tup ys):=fun b ys q=>by
   rw [au (fun z=>by rw [z,hk2] at q; cases q)]; exact q
  obtain ⟨n2,ek2⟩:∃ n2,(s2.heap.update kS (Gc (·.push u'))).get? kS=a_ (Gw "list" (its.toArray.push u') n2):=⟨_,IB (c:="list") ek (·.push u')⟩
  refine j_ ⟨rfl,upd H2 kS (.lst (zs ++ [v'])),zs ++ [v'],?_,ao,fun b u hb q=>?_,?_⟩
  · refine I2.write (t':=s2.toks) (x:=kS) (e:=kS) (o:=.lst (zs ++ [v'])) (by rw [hk2]; trivial) (.inl rfl) (fun b u hb q=>?_) ⟨_,ek2⟩ ?_
    · rw [GS _ _ _ _ hb]; exact q
    · refine ⟨by simp; exact fJ (by omega),its ++ [u'],n2,rvk.append (.cons rv2 .nil),?_⟩
      simpa [Gw] using ek2
  · rw [au hb]
    exact sm2 _ _ (sm b u hb q)
  · have hrow:(ks.map Dv.int).take (j + 1)=(ks.map Dv.int).take j ++ [.int es]:=by
     rw [List.take_add_one,FY,er]
     rfl
    rw [hrow]
    have g1:Reps X.K (upd H2 kS (.lst (zs ++ [v']))) ((ks.map Dv.int).take j) zs:=Reps.tups tup2 _ _ (kY j imk) (Reps.mono sm2 _ _ rz)
    exact g1.append ⟨v',[],rfl,Rep.tups tup2 _ _ rfl rp2,rfl⟩
 case done =>
  rintro s' ⟨H',zs,I',hk',sm,rz⟩
  have rz':Reps X.K H' (ks.map Dv.int) zs:=by
   rw [List.take_of_length_le (by simp; omega)] at rz
   exact rz
  obtain ⟨z,its,n,rvk,hlk,ek⟩:=I'.lstM hk'
  have hzl:zs.length=vs.length:=by have:=dJ rz'; simp at this; omega
  have hil:its.length=vs.length:=by have:=rvk.length; omega
  refine g_ (KT ek rfl ?_)
  have hpa:=I'.pin (a,Gw "list" #[] e1) (by simp)
  refine Di (blt:=rN ks) (c:=n) ek hpa.1 hne hil h64 (wy ks) (nn (iK ks) rz' rvk) (fun i j x y ex ey=>?_) fun p out tk o1 o2 o3 o4=>?_
  · simp [rN,IM,ex,ey]
  · obtain ⟨n2,ek2⟩:∃ n2,(s'.heap.update kS (Gc fun _=>#[])).get? kS=a_ (Gw "list" #[] n2):=⟨_,IB (c:="list") ek (fun _=>(#[]:Array d_))⟩
    have W:=I'.write (t':=tk) (h':=s'.heap.update kS (Gc fun _=>#[])) (x:=kS) (e:=kS) (o:=.lst []) (by rw [hk']; trivial) (.inl rfl) (fun b u hb q=>by rw [GS _ _ _ _ hb]; exact q) ⟨_,ek2⟩ ⟨Gd _,[],n2,.nil,by simpa [Gw] using ek2⟩
    have W2:=W.unpinned
    have hna:upd H' kS (.lst []) a=ck:=by rw [au hne.symm]; exact hpa.2.1
    have ha2:(s'.heap.update kS (Gc fun _=>#[])).get? a=a_ (Gw "list" #[] e1):=by rw [GS _ _ _ _ hne.symm]; exact hpa.1
    obtain ⟨g0,g1,g2,g3⟩:=fpa _ hna
    have T:=W2.turned (t':=tk) (h':=(s'.heap.update kS (Gc fun _=>#[])).update a (Gc fun _=>out)) (it:=a) (fun b o hb q=>by rw [GS _ _ _ _ hb]; exact q) g0 g1 g3.1 g3.2.1 g3.2.2
    exact h _ _ p out _ T hna (fun b u hb q=>by rw [au hb]; exact sm b u hb q) (IB ha2 fun _=>out) o1 o2 o3 o4
end
section
variable {X:Cx} {pins pn:List (i_×Obj)} {σ:L2.St} {H H0:Hp} {s:ge} {f:i_} {F:List Dv→Option (Rs Dv)} {A':w_} {E:d_→ge→Prop}
theorem Ab {a:i_} {n:Nat} {vs:List d_} {ws:List V} {ds:List Dv} {ks:List Int} {P:Mx→ge→Prop}
 (R:BB X A' f pn H0 F) (hpn:∀ p∈pn,p∈pins) (hS:Same H0 H)
 (I:Inv X pins σ H s) (ho:s.heap.get? a=a_ (Gw "list" vs.toArray n)) (hna:H a=ck) (fpa:∀ H',H' a=ck→mG X pins H' a) (rv:Vals ws vs) (rw':Reps X.K H ds ws) (im:imms ds=e_)
 (hkey:∀ (i:Nat) (d:Dv),ds[i]?=a_ d→∃ k,ks[i]?=a_ k∧F [d]=a_ (.ok (.int k))) (hlen:ks.length=ds.length) (hok:ks.length < 64)
 (h:∀ (s':ge) (H':Hp) (p:Nat→Nat) (out:Array d_) (c:Nat),Inv X pins σ H' s'→H' a=ck→Same H H'→s'.heap.get? a=a_ (Gw "list" out c)→out.size=vs.length→(∀ k,k < vs.length→out[k]?=vs[p k]?) →
   (pi vs.length).map p=dv (fun i j=>!rN ks j i) (pi vs.length)→(∀ k,k < vs.length→p k < vs.length)→P (.done (.ret .none)) s') :
 u_ (x_ X.prog X.w) A' (ksk_tree a (.ref f) f_) P E s:=by
 have h64:vs.length < 64:=by
  have g1:=dJ rw'; have g2:=rv.length
  omega
 have ha:a < s.heap.objs.size:=v_ ho
 obtain ⟨g0,g1,g2,g3⟩:=fpa _ hna
 unfold ksk_tree
 refine g_ (KT ho rfl ?_)
 refine g_ (Jj ho rfl ?_ (fJ (by simpa using h64)))
 obtain ⟨e1,ho1⟩:∃ e1,(s.heap.update a (Gc fun _=>(#[]:Array d_))).get? a=a_ (Gw "list" #[] e1):=⟨_,IB ho fun _=>#[]⟩
 have I1:=I.turned (t':=s.toks) (h':=s.heap.update a (Gc fun _=>(#[]:Array d_))) (it:=a) (fun b o hb q=>by rw [GS _ _ _ _ hb]; exact q) g0 g1 g3.1 g3.2.1 g3.2.2
 refine g_ (seqEpoch_at ho1 rfl ?_)
 refine g_ (wpAny_newTuple ?_ (fJ (by simpa using h64)))
 refine g_ (LD ?_)
 refine GL ?_
 have I2:=I1.kept (t':=s.toks) (h':=(s.heap.update a (Gc fun _=>(#[]:Array d_))).push (Gw "tuple" vs.toArray 0)) fun b u q=>k_ _ q
 have sz2:((s.heap.update a (Gc fun _=>(#[]:Array d_))).push (Gw "tuple" vs.toArray 0)).objs.size=s.heap.objs.size + 1:=by rw [size_push',Mw]
 have fr:H ((s.heap.update a (Gc fun _=>(#[]:Array d_))).push (Gw "tuple" vs.toArray 0)).objs.size=ck:=I2.hok.fresh (m_ _)
 have I3:=I2.laid (t':=s.toks) (h':=((s.heap.update a (Gc fun _=>(#[]:Array d_))).push (Gw "tuple" vs.toArray 0)).push (Gw "list" #[] 0)) (o:=.lst []) (fun b u q=>k_ _ q) (m_ _) ⟨Gd _,[],0,.nil,z_ _ rfl⟩
 have ho3:(((s.heap.update a (Gc fun _=>(#[]:Array d_))).push (Gw "tuple" vs.toArray 0)).push (Gw "list" #[] 0)).get? a=a_ (Gw "list" #[] e1):=k_ _ (k_ _ ho1)
 have hne:((s.heap.update a (Gc fun _=>(#[]:Array d_))).push (Gw "tuple" vs.toArray 0)).objs.size≠a:=by rw [sz2]; exact KU (Kf ha)
 have I4:=I3.pinned (fp:=[a]) (fun b hb=>by
  have:b=a:=by simpa using hb
  subst this
  exact fpa _ (by rw [au hne.symm]; exact hna)) (fun b hb=>by
  have:b=a:=by simpa using hb
  subst this
  exact ⟨_,ho3,fun v z=>by cases z⟩)
 rw [lX ho3] at I4
 refine Aa R hpn (fun b u hb q=>by rw [au hb]; exact hS b u q) (hS.free fr) I4 ao hne rv (Reps.mono (aq fr _) _ _ rw') im hkey hlen hok fpa fun s' H' p out c J ja sm e o1 o2 o3 o4=>h s' H' p out c J ja (fun b u q=>sm b u (fun z=>?_) ?_) e o1 o2 o3 o4
 · rw [z,fr] at q; cases q
 · rw [au (fun z=>by rw [z,fr] at q; cases q)]; exact q
theorem tx {l:i_} {vs:List d_} {ws:List V} {ds:List Dv} {ks:List Int} {Q:VK}
 (R:BB X X.A.in1.in1 f pn H0 F) (hpn:∀ p∈pn,p∈pins) (hS:Same H0 H)
 (I:Inv X pins σ H s) (hcol:∀ Q':List d_→ge→Prop,(∀ h' tk,(∀ b o,s.heap.get? b=a_ o→h'.get? b=a_ o)→s.heap.objs.size≤h'.objs.size→Q' vs { s with heap:=h',toks:=tk })→u_ (x_ X.prog X.w) X.A.in1 (collect (.ref l)) Q' E s) (rv:Vals ws vs) (rw':Reps X.K H ds ws)
 (hkr:eN F ds=a_ ks) (hok:ks.length < 64) (im:imms ds=e_)
 (q:∀ (L:i_) (ws':List V) (H':Hp),Same H H'→H' L=a_ (.lst ws')→Reps X.K H' (fR ks ds) ws'→Q (.ref L) H') :
 u_ (x_ X.prog X.w) X.A (call (.builtin "sorted") [.ref l] [(b_ "key",.ref f)]) (EP X pins σ Q) E s:=by
 obtain ⟨hlen,hkey⟩:=gO hkr
 have hws:ds.length=ws.length:=dJ rw'
 have hvs:ws.length=vs.length:=rv.length
 have h64:vs.length < 64:=by
  omega
 refine call_function_entry_kw kind_sorted plain_sorted entry_sorted (ksk_s1 _ _) ?_
 unfold IA.«sorted»
 refine g_ (m:=checkCount "sorted" 1 1 _) (j_ ?_)
 refine g_ (hcol _ fun h1' tk1 up gr=>?_)
 refine g_ (LD ?_ (fJ h64))
 have I1:=I.kept (t':=tk1) (h':=h1'.push (Gw "list" vs.toArray 0)) fun b u z=>k_ _ (up b u z)
 have hoL:(h1'.push (Gw "list" vs.toArray 0)).get? h1'.objs.size=a_ (Gw "list" vs.toArray 0):=z_ _ rfl
 have hfr:H h1'.objs.size=ck:=I.hok.fresh (gr)
 have fpa:∀ H',H' h1'.objs.size=ck→mG X pins H' h1'.objs.size:=fun H' hn=>I.fpOk (gr) hn
 refine g_ (GL (wpAny_call_entry_kw slot_list_sort ⟨_,hoL,rfl⟩ entry_list_sort ?body (ksk_l1 _ _)))
 case body =>
  show u_ (x_ X.prog X.w) X.A.in1.in1 (IA.«list.sort» ⟨[.ref h1'.objs.size],[(b_ "key",.ref f)]⟩) _ _ _
  rw [ksk_t1]
  refine Ab (s:={ s with heap:=h1'.push (Gw "list" vs.toArray 0),toks:=tk1 }) R hpn hS I1 hoL hfr fpa rv rw' im hkey hlen hok fun s' H' p out cc J ja sm e o1 o2 o3 o4=>⟨_,rfl,?_⟩
  refine j_ ⟨_,rfl,?_⟩
  obtain ⟨g0,g1,g2,g3,g4,g5⟩:=fpa _ ja
  have J2:=J.pinned (fp:=[h1'.objs.size]) (fun b hb'=>by
   have:b=h1'.objs.size:=by simpa using hb'
   subst this
   exact fpa _ ja) (fun b hb'=>by
   have:b=h1'.objs.size:=by simpa using hb'
   subst this
   exact ⟨_,e,fun v z=>by cases z⟩)
  rw [lX e] at J2
  have hV:Vals ((pi vs.length).map fun k=>ws.getD (p k) .non) out.toList:=by
   refine ot (by simp [o1]) fun i v u ev eu=>?_
   have hi:i < vs.length:=by
    have:=(E_.mp eu).1
    simp [o1] at this
    omega
   have eu':out[i]?=a_ u:=by simpa using eu
   rw [o2 i hi] at eu'
   rw [FY,Ir hi] at ev
   simp only [HU,IV] at ev
   have hp:p i < ws.length:=by rw [hvs]; exact o4 i hi
   have e1:ws[p i]?=a_ v:=by rw [xy hp,← ev]; simp [IM,hp]
   obtain ⟨u',e2,r2⟩:=rv.get e1
   rw [e2] at eu'
   cases eu'
   exact r2
  have hR:Reps X.K H' (fR ks ds) ((pi vs.length).map fun k=>ws.getD (p k) .non):=by
   have hn:vs.length=ds.length:=by omega
   rw [← ov hlen,← hn,← o3,Io]
   refine oq (by simp) fun i d v ed ev=>?_
   have hi:i < vs.length:=by
    have:=(E_.mp ed).1
    simpa using this
   rw [FY,Ir hi] at ed ev
   simp only [HU,IV,MY] at ed ev
   have hp:p i < ws.length:=by rw [hvs]; exact o4 i hi
   have hp':p i < ds.length:=by omega
   refine lW (Reps.mono sm _ _ rw') (p i) d v ?_ ?_
   · rw [xy hp',← ed]; simp [IM,hp']
   · rw [xy hp,← ev]; simp [IM,hp]
  have e':(h1'.objs.size,Gw "list" out cc)=(h1'.objs.size,vU out.toList cc):=by simp [Gw,vU]
  rw [e'] at J2
  obtain ⟨ha',J3⟩:=Inv.retrack J2 hV (fJ (by simp; omega)) (fun o' z=>by
   exfalso
   rcases g3 with g3 | g3
   · exact absurd (I.ok) (fun _=>by
      have:=Jn (h:=X.s₀.heap) (a:=h1'.objs.size) (F6 I.sz (gr))
      rw [this] at z
      cases z)
   · have:=Jn (h:=X.s₀.heap) (a:=h1'.objs.size) g3
     rw [this] at z
     cases z) g5
  refine ⟨.ref h1'.objs.size,_,J3,rfl,q _ _ _ (fun b u z=>?_) ao (Reps.mono (aq ja _) _ _ hR)⟩
  exact aq ja _ b u (sm b u z)
end
theorem ny {a b:Int} {t u:Tok} {c:d_}:∀ (l:List d_),Mr l→Mr (l ++ [.int a t,.int b u,c])
 | [],_=>trivial
 | .int _ _ :: .int _ _ :: _ :: rest,h=>ny rest h
theorem kZ {pos:Pos} {v c:d_} {a b:Int} {t u:Tok}:∀ (l:List d_),Mr l→Kp pos (l ++ [.int a t,.int b u,c])=a_ v→Kp pos l=a_ v∨v=c
 | [],_,h=>by
  simp only [K2,Kp] at h
  split at h
  · cases h; exact .inr rfl
  · cases h
 | .int x _ :: .int y _ :: z :: rest,hl,h=>by
  simp only [MD,Kp] at h ⊢
  split at h
  · rename_i hc
    rw [if_pos hc]
    exact .inl h
  · rename_i hc
    rw [if_neg hc]
    exact kZ rest hl h
def TBL (P:i_) (q:Str) (H:Hp):Prop:=∃ ps t,H P=a_ (.tbl ps)∧ps[0]?=a_ (.str q t)
def Ac (oc:Obj) (q:Str):Prop:=∃ vs t,oc.data=.fields vs∧vs[1]?=a_ (.str q t)
abbrev FZ (oc:Obj):HO:=.frz oc (.ext fun _=>True)
def k6 (K:c_) (cd:d_) (P:i_):Prop:=∃ cc o vs file tf flags tg inF text tt,cd=.ref cc∧K.lookup cc=a_ o∧o.cls=.type "code"∧o.data=.fields vs∧vs[11]?=a_ (.ref P)∧vs.getD 11 .none=.ref P∧vs.getD 18 .none=.str file tf ∧
 vs.getD 7 .none=.int flags tg∧vs.getD 9 .none=.bool inF∧vs.getD 10 .none=.int text tt∧cc≠P
def Ad (K:c_) (mg:Str→Option d_):Prop:=∃ bm o,mg "__builtins__"=a_ (.ref bm)∧bm≠builtinsNs∧bm≠rl∧K.lookup bm=a_ o∧o.cls=.type "module"∧o.dict=a_ builtinsNs∧o.data=.plain
section
variable {X:Cx} {pins:List (i_×Obj)} {σ:L2.St} {H:Hp} {s:ge} {P:i_} {q:Str}
theorem TBL.now (h:TBL P q X.H₀) (I:Inv X pins σ H s):TBL P q H:=by
 obtain ⟨ps,t,h1,h2⟩:=h
 obtain ⟨more,e⟩:=I.base.tbls P ps h1
 refine ⟨ps ++ more,t,e,?_⟩
 have:0 < ps.size:=(Gu.mp h2).1
 rw [Array.getElem?_append_left this]
 exact h2
theorem wz {c:i_} {ps:Array d_} {oc:Obj} {t':Nat} {h':FF} (I:Inv X pins σ H s) (hP:H P=a_ (.tbl ps)) (hx:∀ b o,b≠P→s.heap.get? b=a_ o→h'.get? b=a_ o) (hc:s.heap.objs.size≤c) (hoc:h'.get? c=a_ oc) (new:ObjOk X.prog X.w (upd H c (FZ oc)) h' P (.tbl ps)) :
 Inv X pins σ (upd H c (FZ oc)) { s with heap:=h',toks:=t' }:=by
 have fr:H c=ck:=I.hok.fresh hc
 have nP:∀ b,H b=ck→b≠P:=fun b n z=>by rw [z,hP] at n; cases n
 have nc:∀ b o,s.heap.get? b=a_ o→b≠c:=fun b o e=>FM (D_ (v_ e) hc)
 refine I.step (g':=s.gens) (d':=s.drawn) (ch:=[]) (fun _ z=>nomatch z) (fun b o _ _ _ e n=>hx b o (nP b n) e) (fun b o _ _ _ e n=>⟨o.slots,hx b o (nP b n) e⟩) (fun b o _ e n=>by rw [au (nc b o e)]; exact n) (fun b o _ e=>?_)
  (fun b xs e=>by rw [au (av e fr)]; exact e) (fun b o u e=>by rw [au (av e fr)]; exact e) (fun b qs e=>⟨#[],by rw [au (av e fr),e]; simp⟩) (fun m hm=>?_) (fun b u e=>?_) I.bare
 · by_cases hb:b=P
   · obtain ⟨qs,e2,_⟩:=new
     exact ⟨_,by rw [hb]; exact e2⟩
   · exact ⟨o,hx b o hb e⟩
 · obtain ⟨o,es,ep,ho,r⟩:=hm
   exact ⟨o,es,ep,hx _ o (nP _ I.free) ho,r⟩
 · by_cases hb:b=c
   · subst hb
     rw [ao] at e
     cases e
     exact ⟨hoc,trivial,⟨oc,hoc⟩,fun _ _ _ _=>trivial⟩
   · rw [au hb] at e
     by_cases hbP:b=P
     · subst hbP
       rw [hP] at e
       cases e
       exact new
     · refine (I.hok b u e).stay (fun d v hd z=>hx d v ?_ z) (fun d z=>by rw [au (av z fr)]; exact z) fun d xs z=>by rw [au (av z fr)]; exact z
       rcases hd with z | z
       · rw [z]; exact hbP
       · intro z2
         rw [z2,hP] at z
         cases z
theorem Ae {E:d_→ge→Prop} {Q:d_→ge→Prop} {args:Arguments} {body:C_} {scope:GK} {lpos:Pos} (I:Inv X pins σ H s) (hT:TBL P q X.H₀) (hC:k6 X.K X.env.code P) (hB:Ad X.K X.mg) (hcl:G8 scope X.env=pure []) (hdef:defaultsOf args X.env=([],[])) (hq:X.env.qual ++ "<lambda>"=q)
 (h:∀ f c oc ctv pm H' s',Inv X pins σ H' s'→Same H H'→H' c=a_ (FZ oc)→Ac oc q→s'.heap.get? f=a_ (HR "<lambda>" q args body scope [] pm c ctv)→mG X pins H' f→Q (.ref f) s') :
 u_ (x_ X.prog X.w) X.A (eval (.Lambda args body scope lpos) X.env) Q E s:=by
 refine PySem.W.kla_eval hdef ?_
 rw [hq]
 obtain ⟨ps,t0,hP,hp0⟩:=hT.now I
 obtain ⟨qs,e,tr,ch⟩:=I.hok P _ hP
 have KX:=I.kIn
 obtain ⟨cc,o,vs,file,tf,flags,tg,inF,text,tt,ecd,lk,c1,c2,c3,c4,c5,c6,c7,c8,c9⟩:=hC
 have C:PySem.W.CodeHd s.heap cc P:=⟨o,vs,file,tf,flags,tg,inF,text,tt,KX _ _ lk,c1,c2,c3,c4,c5,c6,c7,c8,c9⟩
 have hg:s.heap.Ns rl X.mg:=I.mod.glob.keeps I.bk
 obtain ⟨bm,ob,b1,b2,b3,b4,b5,b6,b7⟩:=hB
 have hgP:rl≠P:=fun z=>by
  obtain ⟨o,es,ep,e',hd,_⟩:=hg
  rw [z,e] at e'; cases e'; cases hd
 have hbP:bm≠P:=fun z=>by
  have e':=KX _ _ b4
  rw [z,e] at e'; cases e'; cases b5
 have hb:s.heap.BuiltinsAt X.mg P:=⟨bm,ob,b1,b2,b3,hbP,KX _ _ b4,b5,b6,b7⟩
 cases hf:Kp lpos qs.toList with
 | none =>
  refine PySem.W.kla_makeFunction (mg:=X.mg) hcl I.ok.glob hg ecd C e tr hf hgP hb fun c' ctv h' tk hx hge hlt hrec htb=>?_
  obtain ⟨c2',oc,vs2,t,e2,hoc,hd,hv⟩:=hrec
  cases e2
  have fr:H c'=ck:=I.hok.fresh hge
  have hl:(qs ++ #[MM lpos.line,MM lpos.col,A_ c']).toList=qs.toList ++ [MM lpos.line,MM lpos.col,.ref c']:=by simp
  have new:ObjOk X.prog X.w (upd H c' (FZ oc)) h' P (.tbl ps):=⟨_,htb,by rw [hl]; exact ny _ tr,fun pos v hv'=>by
   rw [hl] at hv'
   rcases kZ _ tr hv' with z | z
   · obtain ⟨c3',oc3,vs3,q3,t3,t3',r1,r2,r3⟩:=ch pos v z
     exact ⟨c3',oc3,vs3,q3,t3,t3',r1,by rw [au (av r2 fr)]; exact r2,r3⟩
   · exact ⟨c',oc,vs2,q,t,t0,z,ao,hd,hv,hp0⟩⟩
  have I':=wz (t':=tk) I hP (fun b o hb' q'=>hx b o hb' q') hge hoc new
  have I2:=I'.kept (t':=tk) (h':=h'.push (HR "<lambda>" q args body scope [] ((X.mg "__name__").getD .none) c' ctv)) fun b u z=>k_ _ z
  exact h h'.objs.size c' oc ctv _ _ _ I2 (aq fr _) ao ⟨vs2,t,hd,hv⟩ (z_ _ rfl) (I'.fpOk (m_ _) (I'.hok.fresh (m_ _)))
 | some v =>
  obtain ⟨c3',oc3,vs3,q3,t3,t3',r1,r2,r3,r4,r5⟩:=ch lpos v hf
  subst r1
  rw [hp0] at r5
  cases r5
  refine PySem.W.kla_makeFunctionHit (mg:=X.mg) hcl I.ok.glob hg ecd C e tr hf hb fun ctv h' tk hk hsz=>?_
  have I1:=I.kept (t':=tk) (h':=h') hk
  have I2:=I1.kept (t':=tk) (h':=h'.push (HR "<lambda>" q args body scope [] ((X.mg "__name__").getD .none) c3' ctv)) fun b u z=>k_ _ z
  exact h h'.objs.size c3' oc3 ctv _ _ _ I2 (.refl H) r2 ⟨vs3,t3,r3,r4⟩ (z_ _ rfl) (I1.fpOk (m_ _) (I1.hok.fresh (m_ _)))
theorem wA {A':w_} {k:Nat} {f c:i_} {oc:Obj} {H0:Hp} {N ps:List Str} {args:Arguments} {body:C_} {scope:GK} {pm ctv:d_} {fb:FnE} {F:List Dv→Option (Rs Dv)} (hr:Room (k + 1) A') (hfr:A'.frames=X.A.frames) (S:cK N ps scope) (hps:ps.length=1)
 (hbd:∀ (pm ctv:d_) (c:i_) (u:d_),Lf (Lh "<lambda>" q args body scope [] pm (.ref c) ctv) ⟨[u],[]⟩=pure (ps.zip [u])) (hc:H0 c=a_ (FZ oc)) (hrec:Ac oc q)
 (hb:∀ (A:w_) (outer:List Env) (s:ge) (H:Hp) (E:XK),Room k (A.deeper (Hh q scope s.heap.objs.size f (.ref c)))→FE (iY CX0 X.prog X.w X.K X.mg X.base N q scope f (.ref c) A outer s H E) body fb)
 (hF:F=fun ds=>fb (ds.map a_ ++ o_ (N.length - ds.length) ck)):BB X A' f [(f,HR "<lambda>" q args body scope [] pm c ctv)] H0 F:=by
 refine ⟨fun pins σ H s v u d d' E hpn hS I ru rd eF=>?_⟩
 have e0:=I.env0
 have e1:Env0 X.prog X.w X.K X.mg X.base A' X.stack s H:=⟨hfr.trans e0.frames,e0.mod,e0.bs,e0.bsz,e0.funs,e0.frf,e0.hok,e0.bare⟩
 have hfo:=(I.pin (f,HR "<lambda>" q args body scope [] pm c ctv) (s_ _ (hpn _ (by simp)))).1
 have hoc:s.heap.get? c=a_ oc:=(I.hok c _ (hS _ _ hc)).1
 obtain ⟨vs,t,hd,hv⟩:=hrec
 have lim:s.heap.NoLimit:=I.nolimit
 have hkind:∀ y∈ps.zip [u],scope.names.lookup y.1=a_ .local∨(scope.names.lookup y.1=a_ .cell∧((F5 (s.heap.objs.size + 1) scope.names []).lookup y.1).isSome=e_):=fun ⟨n,v⟩ hy=>by
  rcases S.par n (ID hy).1 with q | q
  · exact .inl q
  · exact .inr ⟨q,HP _ _ _ (.inl q)⟩
 refine JE (HK (R:=CR CX0 X.stack X.prog X.w H s (fun v' H'=>Same H H'∧Rep X.K H' d' v') E0) ?_ fun r s' hq=>?_)
 · refine PySem.W.kla_callFunE hr.depth hfo rfl S.co S.gen rfl ⟨c,oc,vs,t,rfl,hoc,hd,hv⟩ ?_
   rw [hbd]
   refine j_ (Ie S.kind hkind fun env he s1 x=>?_)
   subst he
   refine ⟨lim.keeps x.toInCall.keep,PySem.W.kla_codeExpr ?_⟩
   have I1:Inv (iY CX0 X.prog X.w X.K X.mg X.base N q scope f (.ref c) A' X.stack s H E0) [] (start N [v]) H s1:=ip S hr.hd e1 (by simp [hps]) (.cons ru .nil) x
   refine FU ((hb A' X.stack s H E0 (hr.deeper _)).h [] s1 (start N [v]) H (fun v' H'=>Same H H'∧Rep X.K H' d' v') I1 ⟨_,cT (ds:=[d]) ⟨v,[],rfl,rd,rfl⟩,?_⟩) (fun v' s' hs=>?_) fun e s' hs=>hs
   · rw [hF] at eF
     have eF':fb (List.map a_ [d] ++ o_ (N.length - [d].length) ck)=a_ (.ok d'):=eF
     rw [eF']
     exact fun v H' e r=>⟨e,r⟩
   · obtain ⟨v2,H2,J,rv2,q2⟩:=hs
     exact ⟨v2,H2,J.os,J.bare,J.base,J.hok,rv2,q2⟩
 · cases r with
   | error e=>exact hq.elim
   | ok fl =>
    cases fl with
    | ret u=>exact I.after hq
    | next=>exact FK hq
    | brk=>exact FK hq
    | cont=>exact FK hq
end
section
variable {X:Cx} {k' k:Nat} {p kp pos lpos:Pos} {e:C_} {g:FnA} {P:i_} {q:Str} {N ps:List Str} {args:Arguments} {body:C_} {scope:GK} {fb:FnE}
def xL (n:Nat) (fb:FnE):List Dv→Option (Rs Dv):=fun ds=>fb (ds.map a_ ++ o_ (n - ds.length) ck)
theorem tz (hT:TBL P q X.H₀) (hC:k6 X.K X.env.code P) (hB:Ad X.K X.mg) (hr:Room k' X.A) (hk:k + 3≤k') (hg:Gl X "sorted") (hm:X.mg "sorted"=ck) (ha:FA X [e] g) (S:cK N ps scope) (hps:ps.length=1) (hN:N.length=1)
 (hb:∀ (f c:i_) (A:w_) (outer:List Env) (s:ge) (H:Hp) (E:XK),Room k (A.deeper (Hh q scope s.heap.objs.size f (.ref c)))→FE (iY CX0 X.prog X.w X.K X.mg X.base N q scope f (.ref c) A outer s H E) body fb)
 (hbd:∀ (pm ctv:d_) (c:i_) (u:d_),Lf (Lh "<lambda>" q args body scope [] pm (.ref c) ctv) ⟨[u],[]⟩=pure (ps.zip [u])) (hcl:G8 scope X.env=pure []) (hdef:defaultsOf args X.env=([],[])) (hq:X.env.qual ++ "<lambda>"=q)
 (he:FP pos (h_ [e] X.env)=(f_,eval e X.env) :: FP pos (h_ [] X.env):=by kernel_rfl)
 (hplain:(FP pos (h_ [e] X.env)).any (·.1)=f_:=by kernel_rfl)
 (hall:(Ho pos (GB [⟨a_ "key",.Lambda args body scope lpos,kp⟩] X.env)).all (·.1.isSome)=e_:=by kernel_rfl)
 (hkw:(Ho pos (GB [⟨a_ "key",.Lambda args body scope lpos,kp⟩] X.env)).any (·.1.isNone)=f_:=by kernel_rfl)
 (hnm:(Ho pos (GB [⟨a_ "key",.Lambda args body scope lpos,kp⟩] X.env)).filterMap (·.1)=[b_ "key"]:=by kernel_rfl) :
 FE X (.Call (.Name "sorted" p) [e] [⟨a_ "key",.Lambda args body scope lpos,kp⟩] pos) (fB1 (ou (xL 1 fb)) g):=⟨fun pins s σ H Q I ⟨ρ,E,o⟩=>by
 refine Gq (et I hg hm (u:=.builtin "sorted") (by decide +kernel) ?_ (by decide) (by decide))
 refine callWith_kw (thn (ha.h pos pins s σ H _ I ⟨ρ,E,OutA.bind o fun ds vs H1 e1 rs o1=>(show ∃ ds,Reps X.K H1 ds vs∧Out X H1 (ou (xL 1 fb) ds) Q from ⟨ds,rs,o1⟩)⟩) fun us s1 ⟨vs,H1,I1,r1,ds,rs,o1⟩=>?_) he hplain hall hkw
 refine kws_cons (Ae I1 hT hC hB hcl hdef hq fun f c oc ctv pm H2 s2 I2 sm hc hrec hfo hfp=>kws_nil ?_)
 rw [hnm]
 show u_ _ _ (call (.builtin "sorted") us [(b_ "key",.ref f)]) _ _ s2
 unfold ou at o1
 split at o1
 · rename_i es
   obtain ⟨v,rfl,r⟩:=cV rs
   obtain ⟨l,xs,rfl,hl,rx⟩:=r.lstE
   obtain ⟨u,rfl,ru⟩:=eC r1
   cases (show u=A_ l from ru)
   split at o1
   · rename_i ks hks
     split at o1
     · rename_i hcond
       obtain ⟨z,its,n,rv,hz,eh⟩:=I2.lstM (sm _ _ hl)
       have Ip:=I2.pinned (fp:=[f]) (fun b hb'=>by
        have:b=f:=by simpa using hb'
        subst this
        exact hfp) (fun b hb'=>by
        have:b=f:=by simpa using hb'
        subst this
        exact ⟨_,hfo,fun v z=>by cases z⟩)
       rw [lX hfo] at Ip
       have hin:Room (k + 1) X.A.in1.in1:=(hr.mono hk).in1.in1
       have R:=wA (X:=X) (A':=X.A.in1.in1) (H0:=H2) (N:=N) (ps:=ps) (args:=args) (body:=body) (scope:=scope) (pm:=pm) (ctv:=ctv) (fb:=fb) (F:=xL 1 fb) hin rfl S hps hbd hc hrec (hb f c) (by rw [hN]; rfl)
       have hlen:its.length < 64:=by
        obtain ⟨g1,_⟩:=gO hks
        have g2:=dJ rx
        have g3:=rv.length
        omega
       refine thn (tx (Q:=Q) R (fun p hp=>by
        have:p=(f,HR "<lambda>" q args body scope [] pm c ctv):=by simpa using hp
        subst this
        simp) (.refl H2) Ip (fun Q' hQ=>lY (M:=x_ X.prog X.w) eh rfl rfl rfl (fun h' up gr=>hQ h' s2.toks up (Il gr)) (fJ hlen)) rv (Reps.mono sm _ _ rx) hks hcond.1 hcond.2 fun L ws' H' sm' hL rw'=>o1 _ _ (sm.trans sm') ⟨L,ws',rfl,hL,rw'⟩) fun u s3 ⟨v,H3,I3,rv3,q3⟩=>⟨v,H3,I3.unpinned,rv3,q3⟩
     · exact o1.elim
   · exact o1.elim
 · exact o1.elim⟩
end
def spT (Pt:i_) (q:Str) (K:c_) (F:List Dv→Option (Rs Dv)) (n:Nat):Sp:=fun vs H Q E=>TBL Pt q H∧spF K F n vs H Q E
def BC (P:n_) (w:y_) (K:c_) (mg:Str→Option d_) (base:FF) (Pt:i_) (q:Str) (x:Str) (k:Nat) (ps:List Str) (F:List Dv→Option (Rs Dv)):Prop :=
 ∃ f fd,FnOk P w K mg base CX0 k f fd ps (spT Pt q K F ps.length)∧mg x=a_ (.ref f)∧F4 K (.ref f)=e_∧Binds K fd ps []
structure HAT (P:n_) (w:y_) (K:c_) (mg:Str→Option d_) (base:FF) (Pt:i_) (q:Str) (T:bE):Prop where
 h:∀ x e,T.lookup x=a_ e→BC P w K mg base Pt q x e.1 e.2.1 e.2.2
section
variable {P:n_} {w:y_} {K:c_} {mg:Str→Option d_} {base h:FF} {Pt:i_} {q:Str} {T:bE} {y x:Str} {k n:Nat} {ps:List Str} {F:List Dv→Option (Rs Dv)} {st:GT} {f:i_}
theorem wB:HAT P w K mg base Pt q []:=⟨fun _ _ h=>by cases h⟩
theorem jX (h:BC P w K mg base Pt q y k ps F) (t:HAT P w K mg base Pt q T):HAT P w K mg base Pt q ((y,k,ps,F) :: T):=⟨fun x e z=>by
 rcases dw z with ⟨rfl,rfl⟩ | z
 · exact h
 · exact t.h x e z⟩
theorem TBL.mono {H H':Hp} (e:Same H H') (h:TBL Pt q H):TBL Pt q H':=let ⟨ps,t,h1,h2⟩:=h; ⟨ps,t,e _ _ h1,h2⟩
theorem uK {fd:F8} {qual:Str} {CT:d_→Prop} (N ps:List Str) (fb:FnS) (hF:F=aY N.length fb) (hn:n=ps.length) (Fn:Fun K x qual st f fd) (S:cK N ps (al st)) (hct:CT fd.code)
 (hb:∀ (cdv:d_) (A:w_) (outer:List Env) (s:ge) (H:Hp) (E:XK),CT cdv→TBL Pt q H→Room k (A.deeper (Hh qual (al st) s.heap.objs.size f cdv))→FSs (iY CX0 P w K mg base N qual (al st) f cdv A outer s H E).nox (bA st) fb) :
 FnOk P w K mg base CX0 (k + 1) f fd ps (spT Pt q K F n):=by
 subst hF hn
 obtain ⟨oc,od,kV,doc,pm,an,cdv,ct,osl,rfl,lk,hcd⟩:=Fn.ex
 refine rV lk hcd S (fun vs H Q E h=>?_) fun A outer s H vs Q E hr h=>?_
 · obtain ⟨_,ds,r,hl,_⟩:=h
   rw [r.length,hl]
 · obtain ⟨ht,ds,r,hl,z⟩:=h
   refine ⟨_,(hb cdv A outer s H E hct ht hr).h.nox,ds.map a_ ++ o_ (N.length - ds.length) ck,cT r,?_⟩
   unfold aY at z
   match hf:fb (ds.map a_ ++ o_ (N.length - ds.length) ck) with
   | none=>rw [hf] at z; exact z.elim
   | some (.exc c)=>rw [hf] at z; exact z.elim
   | some (.rt d)=>rw [hf] at z; exact fun v H' e r'=>z v H' e r'
   | some (.nx ρ)=>rw [hf] at z; exact fun σ' H' e _=>z .non H' e rfl
theorem l4 {CT:d_→Prop} (XI:K.In h) (Gn:h.Ns rl mg) (N ps:List Str) (fb:FnS) (A:Af K x st f) (hbd:z9 x st ps) (hct:∀ fd,Fun K x x st f fd→CT fd.code)
 (hb:∀ (cdv:d_) (A:w_) (outer:List Env) (s:ge) (H:Hp) (E:XK),CT cdv→TBL Pt q H→Room k (A.deeper (Hh x (al st) s.heap.objs.size f cdv))→FSs (iY CX0 P w K mg base N x (al st) f cdv A outer s H E).nox (bA st) fb) (hF:F=aY N.length fb:=by kernel_rfl) (hs:fnB N ps (al st)=e_:=by kernel_rfl):BC P w K mg base Pt q x (k + 1) ps F :=
 let ⟨_,Fn⟩:=A.F
 ⟨_,_,uK N ps fb hF rfl Fn (wv hs) (hct _ Fn) hb,G_ XI Gn A.a,A.k,Fn.binds hbd⟩
def ctB (K:c_) (f Pt:i_):Bool:=match K.lookup f with
 | some ⟨_,_,.func fd,_⟩=>(match fd.code with
  | .ref cc=>(match K.lookup cc with
   | some ⟨.type "code",_,.fields vs,_⟩=>(match (vs[11]?:Option d_),vs.getD 11 .none,vs.getD 18 .none,vs.getD 7 .none,vs.getD 9 .none,vs.getD 10 .none with
    | some (.ref p),.ref p',.str _ _,.int _ _,.bool _,.int _ _=>Hz p Pt && Hz p' Pt && !Hz cc Pt
    | _,_,_,_,_,_=>f_)
   | _=>f_)
  | _=>f_)
 | _=>f_
theorem Dj {fd:F8} (h:ctB K f Pt=e_) (Fn:Fun K x x st f fd):k6 K fd.code Pt:=by
 obtain ⟨oc,od,kV,doc,pm,an,cdv,ct,osl,e,lk,hcd⟩:=Fn.ex
 unfold ctB at h
 rw [lk] at h
 dsimp only at h
 split at h
 · rename_i cc hcc
   split at h
   · rename_i dd vs sl hlk
     split at h
     · rename_i p p' a1 a2 a3 a4 a5 a6 a7 e1 e2 e3 e4 e5 e6
       simp only [l_,Ib] at h
       have h1:p=Pt:=FN h.1.1
       have h2:p'=Pt:=FN h.1.2
       subst h1
       subst h2
       exact ⟨cc,_,vs,_,_,_,_,_,_,_,hcc,hlk,rfl,rfl,e1,e2,e3,e4,e5,e6,G9 h.2⟩
     · cases h
   · cases h
 · cases h
theorem ctB_tab {h:FF} (XI:K.In h) (hc:ctB K f Pt=e_):Le h Pt:=by
 unfold ctB at hc
 split at hc
 · split at hc
   · rename_i cc hcc
     split at hc
     · rename_i dd vs sl hlk
       split at hc
       · rename_i p p' a1 a2 a3 a4 a5 a6 a7 e1 e2 e3 e4 e5 e6
         simp only [l_,Ib] at hc
         have h1:p=Pt:=FN hc.1.1
         subst h1
         exact ⟨cc,_,vs,XI _ _ hlk,rfl,rfl,e1⟩
       · cases hc
     · cases hc
   · cases hc
 · cases hc
def bmB (K:c_):Bool:=match GY K rl "__builtins__" with
 | some (a_ (.ref bm))=>(match K.lookup bm with
  | some ⟨.type "module",a_ d,.plain,_⟩=>Hz d builtinsNs && !Hz bm builtinsNs && !Hz bm rl
  | _=>f_)
 | _=>f_
theorem Dk (XI:K.In h) (Gn:h.Ns rl mg) (hb:bmB K=e_):Ad K mg:=by
 unfold bmB at hb
 split at hb
 · rename_i bm e1
   split at hb
   · rename_i d sl e2
     simp only [l_,Ib] at hb
     have h1:d=builtinsNs:=FN hb.1.1
     subst h1
     exact ⟨bm,_,G_ XI Gn e1,G9 hb.1.2,G9 hb.2,e2,rfl,rfl,rfl⟩
   · cases hb
 · cases hb
end
section
variable {X:Cx} {T:bE} {C:xK} {k' n:Nat} {Pt:i_} {q x:Str} {p pos kp lpos:Pos} {e:C_} {es:List C_} {F:List Dv→Option (Rs Dv)} {g:FnA} {N ps:List Str} {args:Arguments} {body:C_} {scope:GK} {fb:FnE}
theorem qN (k:Nat) (ps:List Str) (F:List Dv→Option (Rs Dv)) (h:BC X.prog X.w X.K X.mg X.base Pt q x k ps F) (hT:TBL Pt q X.H₀) (hr:Room k' X.A) (hk:k≤k') (hg:Gl X x) (ha:FA X (e :: es) g) (hn:n=ps.length:=by kernel_rfl) (hdb:(x == ("__debug__":Str))=f_:=by kernel_rfl)
 (he:h_ (e :: es) X.env=(f_,eval e X.env) :: h_ es X.env:=by kernel_rfl) (hpl:(FP pos (h_ es X.env)).any (·.1)=f_:=by kernel_rfl) :
 FE X (.Call (.Name x p) (e :: es) [] pos) (ag F n g):=by
 subst hn
 obtain ⟨f,fd,G,hm,hkp,hb⟩:=h
 refine ⟨fun pins s σ H Q I ⟨ρ,E,o⟩=>jF (G.mono hk) hr hg hm hkp hb .nil yu ha.h hdb he hpl pins s σ H Q I ⟨ρ,E,OutA.bind o fun ds vs H' e rs o1=>?_⟩⟩
 show spT Pt q X.K F ps.length (vs ++ []) H' Q E0
 rw [GE]
 refine ⟨(hT.now I).mono e,?_⟩
 split at o1
 · rename_i hl
   refine ⟨ds,rs,hl,?_⟩
   match hF:F ds with
   | some (.ok d)=>rw [hF] at o1; exact o1
   | none=>rw [hF] at o1; exact o1.elim
   | some (.exc _)=>rw [hF] at o1; exact o1.elim
 · exact o1.elim
theorem qO (hT:HAT X.prog X.w X.K X.mg X.base Pt q T) (hB:TBL Pt q X.H₀) (hr:Room k' X.A) (hF:(T.lookup x).map (fun q=>q.2.2)=a_ F) (ha:FA X (e :: es) g) (hk:((T.lookup x).all fun q=>KW q.1 k' && Hz n q.2.1.length)=e_:=by kernel_rfl) (hg:X.env.kindOf x=a_ .globalImplicit:=by kernel_rfl) (hdb:(x == ("__debug__":Str))=f_:=by kernel_rfl)
 (he:h_ (e :: es) X.env=(f_,eval e X.env) :: h_ es X.env:=by kernel_rfl) (hpl:(FP pos (h_ es X.env)).any (·.1)=f_:=by kernel_rfl) :
 FE X (.Call (.Name x p) (e :: es) [] pos) (ag F n g):=by
 cases hq:T.lookup x with
 | none=>rw [hq] at hF; cases hF
 | some q =>
  rw [hq] at hF hk
  cases hF
  rw [HV,l_] at hk
  exact qN q.1 q.2.1 q.2.2 (hT.h x q hq) hB hr (GC hk.1) hg ha (FN hk.2) hdb he hpl
theorem qP (hT:TBL Pt q X.H₀) (hC:k6 X.K X.env.code Pt) (hB:Ad X.K X.mg) (hM:MA X.mg C) (hr:Room k' X.A) (ha:FA X [e] g)
 (hb:∀ (f c:i_) (A:w_) (outer:List Env) (s:ge) (H:Hp) (E:XK),Room 1 (A.deeper (Hh q scope s.heap.objs.size f (.ref c)))→FE (iY CX0 X.prog X.w X.K X.mg X.base N q scope f (.ref c) A outer s H E) body fb)
 (hk:KW 4 k'=e_:=by kernel_rfl) (hg:X.env.kindOf (b_ "sorted")=a_ .globalImplicit:=by kernel_rfl) (hm:C.lookup (b_ "sorted")=a_ ck:=by kernel_rfl) (hs:fnB N N scope=e_:=by kernel_rfl) (hN:Hz N.length 1=e_:=by kernel_rfl)
 (hbd:∀ (pm ctv:d_) (c:i_) (u:d_),Lf (Lh "<lambda>" q args body scope [] pm (.ref c) ctv) ⟨[u],[]⟩=pure (N.zip [u]):=by intros; kernel_rfl) (hcl:G8 scope X.env=pure []:=by kernel_rfl) (hdef:defaultsOf args X.env=([],[]):=by kernel_rfl) (hq:X.env.qual ++ "<lambda>"=q:=by kernel_rfl)
 (he:FP pos (h_ [e] X.env)=(f_,eval e X.env) :: FP pos (h_ [] X.env):=by kernel_rfl)
 (hplain:(FP pos (h_ [e] X.env)).any (·.1)=f_:=by kernel_rfl)
 (hall:(Ho pos (GB [⟨a_ "key",.Lambda args body scope lpos,kp⟩] X.env)).all (·.1.isSome)=e_:=by kernel_rfl)
 (hkw:(Ho pos (GB [⟨a_ "key",.Lambda args body scope lpos,kp⟩] X.env)).any (·.1.isNone)=f_:=by kernel_rfl)
 (hnm:(Ho pos (GB [⟨a_ "key",.Lambda args body scope lpos,kp⟩] X.env)).filterMap (·.1)=[b_ "key"]:=by kernel_rfl) :
 FE X (.Call (.Name "sorted" p) [e] [⟨a_ "key",.Lambda args body scope lpos,kp⟩] pos) (fB1 (ou (xL 1 fb)) g) :=
 tz hT hC hB hr (GC hk) hg (hM.no hm) ha (wv hs) (FN hN) (FN hN) hb hbd hcl hdef hq he hplain hall hkw hnm
end
def xM (Pt:i_) (q:Str) (K:c_) (F:List Dv→Option (Rs Dv)) (n:Nat):Sp:=fun vs H Q E=>TBL Pt q H∧spE K F n vs H Q E
def tD (P:n_) (w:y_) (K:c_) (mg:Str→Option d_) (base:FF) (Pt:i_) (q:Str) (x:Str) (k:Nat) (ps:List Str) (F:List Dv→Option (Rs Dv)):Prop :=
 ∃ f fd,FnOk P w K mg base (CXE P w) k f fd ps (xM Pt q K F ps.length)∧mg x=a_ (.ref f)∧F4 K (.ref f)=e_∧Binds K fd ps []
structure ow (P:n_) (w:y_) (K:c_) (mg:Str→Option d_) (base:FF) (Pt:i_) (q:Str) (T:bE):Prop where
 h:∀ x e,T.lookup x=a_ e→tD P w K mg base Pt q x e.1 e.2.1 e.2.2
section
variable {P:n_} {w:y_} {K:c_} {mg:Str→Option d_} {base h:FF} {Pt:i_} {q:Str} {T:bE} {y x:Str} {k n:Nat} {ps:List Str} {F:List Dv→Option (Rs Dv)} {st:GT} {f:i_}
theorem tE:ow P w K mg base Pt q []:=⟨fun _ _ h=>by cases h⟩
theorem iL (h:tD P w K mg base Pt q y k ps F) (t:ow P w K mg base Pt q T):ow P w K mg base Pt q ((y,k,ps,F) :: T):=⟨fun x e z=>by
 rcases dw z with ⟨rfl,rfl⟩ | z
 · exact h
 · exact t.h x e z⟩
theorem wC {fd:F8} {qual:Str} {CT:d_→Prop} (N ps:List Str) (fb:FnS) (hF:F=gK N.length fb) (hn:n=ps.length) (Fn:Fun K x qual st f fd) (S:cK N ps (al st)) (hct:CT fd.code)
 (hb:∀ (cdv:d_) (A:w_) (outer:List Env) (s:ge) (H:Hp) (E:XK),CT cdv→TBL Pt q H→Room k (A.deeper (Hh qual (al st) s.heap.objs.size f cdv))→FSs (iY (CXE P w) P w K mg base N qual (al st) f cdv A outer s H E) (bA st) fb) :
 FnOk P w K mg base (CXE P w) (k + 1) f fd ps (xM Pt q K F n):=by
 subst hF hn
 obtain ⟨oc,od,kV,doc,pm,an,cdv,ct,osl,rfl,lk,hcd⟩:=Fn.ex
 refine rV lk hcd S (fun vs H Q E h=>?_) fun A outer s H vs Q E hr h=>?_
 · obtain ⟨_,ds,r,hl,_⟩:=h
   rw [r.length,hl]
 · obtain ⟨ht,ds,r,hl,q⟩:=h
   refine ⟨_,(hb cdv A outer s H E hct ht hr).h,ds.map a_ ++ o_ (N.length - ds.length) ck,cT r,?_⟩
   unfold gK at q
   match hf:fb (ds.map a_ ++ o_ (N.length - ds.length) ck) with
   | none=>rw [hf] at q; exact q.elim
   | some (.exc c)=>rw [hf] at q; exact zk q
   | some (.rt d)=>rw [hf] at q; exact fun v H' e r'=>q v H' e r'
   | some (.nx ρ)=>rw [hf] at q; exact fun σ' H' e _=>q .non H' e rfl
theorem jY {CT:d_→Prop} (XI:K.In h) (Gn:h.Ns rl mg) (N ps:List Str) (fb:FnS) (A:Af K x st f) (hbd:z9 x st ps) (hct:∀ fd,Fun K x x st f fd→CT fd.code)
 (hb:∀ (cdv:d_) (A:w_) (outer:List Env) (s:ge) (H:Hp) (E:XK),CT cdv→TBL Pt q H→Room k (A.deeper (Hh x (al st) s.heap.objs.size f cdv))→FSs (iY (CXE P w) P w K mg base N x (al st) f cdv A outer s H E) (bA st) fb) (hF:F=gK N.length fb:=by kernel_rfl) (hs:fnB N ps (al st)=e_:=by kernel_rfl):tD P w K mg base Pt q x (k + 1) ps F :=
 let ⟨_,Fn⟩:=A.F
 ⟨_,_,wC N ps fb hF rfl Fn (wv hs) (hct _ Fn) hb,G_ XI Gn A.a,A.k,Fn.binds hbd⟩
end
section
variable {X:Cx} {T:bE} {k' n:Nat} {Pt:i_} {q x:Str} {p pos:Pos} {e:C_} {es:List C_} {F:List Dv→Option (Rs Dv)} {g:FnA}
theorem oy (k:Nat) (ps:List Str) (F:List Dv→Option (Rs Dv)) (h:tD X.prog X.w X.K X.mg X.base Pt q x k ps F) (hT:TBL Pt q X.H₀) (hr:Room k' X.A) (hk:k≤k') (hex:X.ex=[]) (hg:Gl X x) (ha:FA X (e :: es) g) (hn:n=ps.length:=by kernel_rfl) (hdb:(x == ("__debug__":Str))=f_:=by kernel_rfl)
 (he:h_ (e :: es) X.env=(f_,eval e X.env) :: h_ es X.env:=by kernel_rfl) (hpl:(FP pos (h_ es X.env)).any (·.1)=f_:=by kernel_rfl) :
 FE X (.Call (.Name x p) (e :: es) [] pos) (aB F n g):=by
 subst hn
 obtain ⟨f,fd,G,hm,hkp,hb⟩:=h
 refine ⟨fun pins s σ H Q I ⟨ρ,E,o⟩=>jF (G.mono hk) hr hg hm hkp hb .nil (vQ hex) ha.h hdb he hpl pins s σ H Q I ⟨ρ,E,OutA.bind o fun ds vs H' e rs o1=>?_⟩⟩
 show xM Pt q X.K F ps.length (vs ++ []) H' Q (EX X)
 rw [GE]
 refine ⟨(hT.now I).mono e,?_⟩
 by_cases hl:ds.length=ps.length
 · rw [if_pos hl] at o1
   refine ⟨ds,rs,hl,?_⟩
   match hF:F ds with
   | none=>rw [hF] at o1; exact o1.elim
   | some (.ok d)=>rw [hF] at o1; exact o1
   | some (.exc c)=>rw [hF] at o1; exact fun C H1 hC e1=>⟨c,C,rfl,hC,XW.mono o1 e1⟩
 · rw [if_neg hl] at o1
   exact o1.elim
theorem oz (hT:ow X.prog X.w X.K X.mg X.base Pt q T) (hB:TBL Pt q X.H₀) (hr:Room k' X.A) (hF:(T.lookup x).map (fun q=>q.2.2)=a_ F) (hex:X.ex=[]) (ha:FA X (e :: es) g) (hk:((T.lookup x).all fun q=>KW q.1 k' && Hz n q.2.1.length)=e_:=by kernel_rfl) (hg:X.env.kindOf x=a_ .globalImplicit:=by kernel_rfl) (hdb:(x == ("__debug__":Str))=f_:=by kernel_rfl)
 (he:h_ (e :: es) X.env=(f_,eval e X.env) :: h_ es X.env:=by kernel_rfl) (hpl:(FP pos (h_ es X.env)).any (·.1)=f_:=by kernel_rfl) :
 FE X (.Call (.Name x p) (e :: es) [] pos) (aB F n g):=by
 cases hq:T.lookup x with
 | none=>rw [hq] at hF; cases hF
 | some q =>
  rw [hq] at hF hk
  cases hF
  rw [HV,l_] at hk
  exact oy q.1 q.2.1 q.2.2 (hT.h x q hq) hB hr (GC hk.1) hex hg ha (FN hk.2) hdb he hpl
end
def Ag (X:Cx) (tf:TE) (t:TA):TE:=fun σ H Q=>tf σ H fun v H1=>∃ (k:Nat) (f:i_) (fd:F8) (ps:List Str) (sp:Sp) (E:XK) (CX:CXT),v=.ref f∧FnOk X.prog X.w X.K X.mg X.base CX k f fd ps sp∧Room k X.A∧F4 X.K (.ref f)=e_∧Binds X.K fd ps []∧jf CX X E∧t σ H1 fun vs H2=>sp vs H2 Q E
theorem tG {X:Cx} {fx:C_} {tf:TE} {t:TA} {e:C_} {es:List C_} {pos:Pos} (hf:PE X fx tf) (ha:PA X (e :: es) t)
 (arm:eval (.Call fx (e :: es) [] pos) X.env=(do callWith pos (← eval fx X.env) [] (FP pos (h_ (e :: es) X.env)) (Ho pos (GB [] X.env))))
 (he:h_ (e :: es) X.env=(f_,eval e X.env) :: h_ es X.env:=by kernel_rfl) (hpl:(FP pos (h_ es X.env)).any (·.1)=f_:=by kernel_rfl) :
 PE X (.Call fx (e :: es) [] pos) (Ag X tf t):=by
 intro pins s σ H Q I h
 rw [arm]
 refine g_ (thn (hf pins s σ H _ I h) fun u s1 ⟨v,H1,I1,r1,q1⟩=>?_)
 obtain ⟨k,f,fd,ps,sp,E,CX,rfl,F,hr,hk,hb,hx,ht⟩:=q1
 cases (show u=A_ f from r1)
 refine JG (h₀:=X.base) I1.ok.mod.kin hk (thn (ha pos pins s1 σ H1 _ I1 ht) fun us s2 ⟨vs,H2,I2,r,q⟩=>⟨I2.kIn,?_⟩) he hpl
 exact ui (dvs:=[]) F hr hb .nil hx I2 r (by rw [GE]; exact q)
def gQ (Fs:List (List Dv→Option (Rs Dv))) (n:Nat) (fi:FnE) (g:FnA):FnE:=fun ρ=>bnd (fi ρ) fun k=>match k with
 | .int k=>if 0≤k then (match Fs[k.toNat]? with | some F=>aB F n g ρ | none=>ck) else ck
 | _=>ck
section
variable {X:Cx} {T:bE} {k' n:Nat} {Pt:i_} {q x1 x2 x3:Str} {p1 p2 p3 lp sp pos:Pos} {ix e:C_} {es:List C_} {F1 F2 F3:List Dv→Option (Rs Dv)} {fi:FnE} {g:FnA}
theorem oA (hT:ow X.prog X.w X.K X.mg X.base Pt q T) (hB:TBL Pt q X.H₀) (hr:Room k' X.A) (hF1:(T.lookup x1).map (fun q=>q.2.2)=a_ F1) (hF2:(T.lookup x2).map (fun q=>q.2.2)=a_ F2) (hF3:(T.lookup x3).map (fun q=>q.2.2)=a_ F3) (hex:X.ex=[]) (hi:FE X ix fi) (ha:FA X (e :: es) g)
 (hk:([x1,x2,x3].all fun x=>(T.lookup x).all fun q=>KW q.1 k' && Hz n q.2.1.length)=e_:=by kernel_rfl) (hg1:X.env.kindOf x1=a_ .globalImplicit:=by kernel_rfl) (hg2:X.env.kindOf x2=a_ .globalImplicit:=by kernel_rfl) (hg3:X.env.kindOf x3=a_ .globalImplicit:=by kernel_rfl)
 (hd:((x1 == ("__debug__":Str)) || (x2 == ("__debug__":Str)) || (x3 == ("__debug__":Str)))=f_:=by kernel_rfl) (hs:lK ix:=by intro _ _; kernel_rfl)
 (s1:h_ [.Name x1 p1,.Name x2 p2,.Name x3 p3] X.env=(f_,eval (.Name x1 p1) X.env) :: h_ [.Name x2 p2,.Name x3 p3] X.env:=by kernel_rfl) (s2:h_ [.Name x2 p2,.Name x3 p3] X.env=(f_,eval (.Name x2 p2) X.env) :: h_ [.Name x3 p3] X.env:=by kernel_rfl) (s3:h_ [.Name x3 p3] X.env=(f_,eval (.Name x3 p3) X.env) :: h_ [] X.env:=by kernel_rfl)
 (arm:eval (.Call (.Subscript (.List [.Name x1 p1,.Name x2 p2,.Name x3 p3] lp) ix sp) (e :: es) [] pos) X.env=(do callWith pos (← eval (.Subscript (.List [.Name x1 p1,.Name x2 p2,.Name x3 p3] lp) ix sp) X.env) [] (FP pos (h_ (e :: es) X.env)) (Ho pos (GB [] X.env))):=by kernel_rfl)
 (he:h_ (e :: es) X.env=(f_,eval e X.env) :: h_ es X.env:=by kernel_rfl) (hpl:(FP pos (h_ es X.env)).any (·.1)=f_:=by kernel_rfl) :
 FE X (.Call (.Subscript (.List [.Name x1 p1,.Name x2 p2,.Name x3 p3] lp) ix sp) (e :: es) [] pos) (gQ [F1,F2,F3] n fi g):=by
 have look:∀ {x F},(T.lookup x).map (fun q=>q.2.2)=a_ F→((T.lookup x).all fun q=>KW q.1 k' && Hz n q.2.1.length)=e_→∃ f fd k ps,FnOk X.prog X.w X.K X.mg X.base (CXE X.prog X.w) k f fd ps (xM Pt q X.K F n)∧Room k X.A∧X.mg x=a_ (.ref f)∧F4 X.K (.ref f)=e_∧Binds X.K fd ps []:=by
  intro x F h1 h2
  cases hq:T.lookup x with
  | none=>rw [hq] at h1; cases h1
  | some r =>
   rw [hq] at h1 h2
   cases h1
   rw [HV,l_] at h2
   obtain ⟨f,fd,G,hm,hkp,hb⟩:=hT.h x r hq
   have hn:n=r.2.1.length:=FN h2.2
   subst hn
   exact ⟨f,fd,k',r.2.1,G.mono (GC h2.1),hr,hm,hkp,hb⟩
 simp only [G4,List.all_nil,Bool.and_true] at hk
 rw [l_,l_] at hk
 simp only [Bool.or_eq_false_iff] at hd
 obtain ⟨f1,fd1,k1,ps1,G1,r1,m1,kp1,b1⟩:=look hF1 hk.1
 obtain ⟨f2',fd2,k2,ps2,G2,r2,m2,kp2,b2⟩:=look hF2 hk.2.1
 obtain ⟨f3,fd3,k3,ps3,G3,r3,m3,kp3,b3⟩:=look hF3 hk.2.2
 have pl:PE X (.List [.Name x1 p1,.Name x2 p2,.Name x3 p3] lp) (DX (rT (L2.tC (.ref f1)) (rT (L2.tC (.ref f2')) (rT (L2.tC (.ref f3)) DW)))) :=
  pp (df (gE hg1 m1 rfl hd.1.1) (df (gE hg2 m2 rfl hd.1.2) (df (gE hg3 m3 rfl hd.2) kg s3) s2) s1)
 refine ⟨fun pins s σ H Q I ⟨ρ,E,o⟩=>tG (yn ix_list pl hi.h hs) ha.h arm he hpl pins s σ H Q I ?_⟩
 show (3:Nat)≤sizeLine∧∀ p,H p=ck→_
 refine ⟨by decide,fun l hl=>⟨ρ,E.mono (aq hl _),?_⟩⟩
 unfold gQ at o
 match hfi:fi ρ with
 | none=>rw [hfi] at o; exact o.elim
 | some (.exc c)=>rw [hfi] at o; exact XW.mono o (aq hl _)
 | some (.ok d) =>
  rw [hfi] at o
  cases d <;> try exact (show False from o).elim
  rename_i k
  have o2:Out X H (if 0≤k then (match [F1,F2,F3][k.toNat]? with | some F=>aB F n g ρ | none=>ck) else ck) Q:=o
  split at o2
  · rename_i hk0
    intro w H2 e2 rk
    cases (show w=.int k from rk)
    have key:∀ (j:Nat) (f:i_) (fd:F8) (k0:Nat) (ps:List Str) (F:List Dv→Option (Rs Dv)),k.toNat=j→[V.ref f1,V.ref f2',V.ref f3][j]?=a_ (.ref f)→Out X H (aB F n g ρ) Q→FnOk X.prog X.w X.K X.mg X.base (CXE X.prog X.w) k0 f fd ps (xM Pt q X.K F n)→Room k0 X.A→F4 X.K (.ref f)=e_→Binds X.K fd ps [] →
     B5 X.K (.ref l) (.int k) H2 fun v H1=>∃ (k:Nat) (f:i_) (fd:F8) (ps:List Str) (sp:Sp) (E:XK) (CX:CXT),v=.ref f∧FnOk X.prog X.w X.K X.mg X.base CX k f fd ps sp∧Room k X.A∧F4 X.K (.ref f)=e_∧Binds X.K fd ps []∧jf CX X E∧tA X g σ H1 fun vs H2=>sp vs H2 Q E:=by
     intro j f fd k0 ps F hj hv of G rm kp bb
     have sm:Same H H2:=(aq hl _).trans e2
     refine ⟨l,_,k,.ref f,rfl,rfl,SqL.of (e2 _ _ ao),?_,k0,f,fd,ps,xM Pt q X.K F n,EX X,CXE X.prog X.w,rfl,G,rm,kp,bb,vQ hex,ρ,E.mono sm,OutA.bind (Out.mono sm of) fun ds vs H' e rs o1=>?_⟩
     · unfold atI ixN
       have hlt:j < 3:=by
        have:=(E_.mp hv).1
        simpa using this
       rw [if_pos hk0,if_pos (by simp; omega)]
       show [V.ref f1,V.ref f2',V.ref f3][k.toNat]?=_
       rw [hj]
       exact hv
     · refine ⟨(hB.now I).mono (sm.trans e),?_⟩
       by_cases hln:ds.length=n
       · rw [if_pos hln] at o1
         refine ⟨ds,rs,hln,?_⟩
         match hF:F ds with
         | none=>rw [hF] at o1; exact o1.elim
         | some (.ok d)=>rw [hF] at o1; exact o1
         | some (.exc c)=>rw [hF] at o1; exact fun C H1 hC e1=>⟨c,C,rfl,hC,XW.mono o1 e1⟩
       · rw [if_neg hln] at o1
         exact o1.elim
    match hj:k.toNat with
    | 0=>rw [hj] at o2; exact key 0 f1 fd1 k1 ps1 F1 hj rfl o2 G1 r1 kp1 b1
    | 1=>rw [hj] at o2; exact key 1 f2' fd2 k2 ps2 F2 hj rfl o2 G2 r2 kp2 b2
    | 2=>rw [hj] at o2; exact key 2 f3 fd3 k3 ps3 F3 hj rfl o2 G3 r3 kp3 b3
    | j + 3=>rw [hj] at o2; exact o2.elim
  · exact o2.elim
end
end FD
namespace FD
open PySem PySem.Spec PyProof.Rows L2
section
variable {X:Cx} {Pt:i_} {q x:Str} {elt iter:C_} {ifs:List C_} {scope:GK} {pos px:Pos} {src:FnA} {tst:Option FnB} {fe:FnE} {cs:List (Str×Nat)}
theorem Ah (hB:TBL Pt q X.H₀) (hi:FIG X (.Name x px) iter src) (helt:∀ C s H fp,TBL Pt q H→FE (ai X (x :: cs.map (·.1)) scope C s H fp) elt fe) (hifs:∀ C s H fp,TBL Pt q H→lP (ai X (x :: cs.map (·.1)) scope C s H fp) ifs tst)
 (hok:td X.env.scope scope cs X.N=e_:=by kernel_rfl) (hcl:G8 scope X.env=pure (gH scope.names X.env []):=by kernel_rfl) (hc:X.calm=e_:=by kernel_rfl) (hnd:ndB (x :: cs.map (·.1))=e_:=by kernel_rfl) (hl:ia scope x=e_:=by kernel_rfl)
 (hs:∀ x,FR iter X.env x=pure x:=by intro _; kernel_rfl):FE X (.ListComp elt [⟨.Name x px,iter,ifs,0⟩] scope pos) (aN cs src tst fe) :=
 (qv (cs:=cs) (src:=src) (tst:=tst) (fe:=fe)) ▸ nu X.env.scope X.N [x] [0] cs rfl rfl (jw hok) hcl hc (sA _) hi (fun C s H fp=>fgA C s H fp hnd rfl hl) (fun C s H fp ⟨_,_,I⟩=>helt C s H fp (hB.now I)) (fun C s H fp ⟨_,_,I⟩=>hifs C s H fp (hB.now I)) hs
theorem qQ {N:List Str}:∀ C s H fp,TBL Pt q H→lP (ai X N scope C s H fp) [] ck:=fun _ _ _ _ _=>rfl
theorem qR {N:List Str} {c:C_} {t:FnB} (h:∀ C s H fp,TBL Pt q H→FT (ai X N scope C s H fp) c t):∀ C s H fp,TBL Pt q H→lP (ai X N scope C s H fp) [c] (a_ t):=fun C s H fp hB=>⟨_,rfl,h C s H fp hB⟩
end
def jy:List Dv→Option (Rs Dv)
 | [.int j]=>if 0≤j∧j≤64 then a_ (.ok (.lst (rng 0 j.toNat))) else ck
 | _=>ck
theorem nz {K:c_} {H:Hp}:∀ (n:Nat) (lo:Int) (its:List d_),its.length=n→(∀ (j:Nat) (v:d_),its[j]?=a_ v→∃ t,v=.int (lo + j) t)→∃ vs,Vals vs its∧Reps K H (rng lo n) vs
 | 0,lo,[],_,_=>⟨[],.nil,rfl⟩
 | n + 1,lo,v :: its,hl,h=>by
  obtain ⟨t,rfl⟩:=h 0 v rfl
  obtain ⟨vs,r,q⟩:=nz (K:=K) (H:=H) n (lo + 1) its (by simpa using hl) (fun j u hj=>by
   obtain ⟨t,rfl⟩:=h (j + 1) u (by simpa using hj)
   exact ⟨t,by congr 1; omega⟩)
  exact ⟨.int (lo + (0:Nat)) :: vs,.cons ⟨t,rfl⟩ r,.int (lo + (0:Nat)),vs,rfl,(by show V.int (lo + (0:Nat))=V.int lo; simp),q⟩
theorem tH {X:Cx} {p p2 pos pos2:Pos} {a:C_} {ga:FnA} (hc:X.calm=e_) (hg:Gl X "list") (hm:X.mg "list"=ck) (hg2:Gl X "range") (hm2:X.mg "range"=ck) (ha:FA X [a] ga) (hs:h_ [a] X.env=[(f_,eval a X.env)]:=by kernel_rfl)
 (he:h_ [.Call (.Name "range" p2) [a] [] pos2] X.env=[(f_,eval (.Call (.Name "range" p2) [a] [] pos2) X.env)]:=by kernel_rfl):FE X (.Call (.Name "list" p) [.Call (.Name "range" p2) [a] [] pos2] [] pos) (fB1 jy ga):=⟨fun pins s σ H Q I ⟨ρ,E,o⟩=>by
 refine Gq (et I hg hm (show Go "list"=a_ (.type "list") by decide +kernel) ?_ (by decide) (by decide))
 refine Gg ?_ he rfl
 rw [he]
 show u_ _ _ (MK ((f_,eval _ X.env) :: FP pos [])) _ _ s
 refine JO ?_
 refine Gq (et I hg2 hm2 boot_range ?_ (by decide) (by decide))
 refine Gg (thn (ha.h pos2 pins s σ H (fun vs H1=>∃ j,vs=[.int j]∧0≤j∧j≤64∧Out X H1 (a_ (.ok (.lst (rng 0 j.toNat)))) Q) I ⟨ρ,E,OutA.bind o fun ds vs H1 e1 rs o1=>?_⟩) fun us s1 ⟨vs,H1,I1,r1,q1⟩=>?_) hs rfl
 · unfold jy at o1
   split at o1
   · rename_i j
     split at o1
     · rename_i hj
       obtain ⟨v,rfl,r⟩:=cV rs
       cases (show v=.int j from r)
       exact ⟨j,rfl,hj.1,hj.2,o1⟩
     · exact o1.elim
   · exact o1.elim
 · obtain ⟨j,rfl,h0,h1,q⟩:=q1
   obtain ⟨u,rfl,t,rfl⟩:=eC r1
   refine call_range_1 ?_
   refine Kc ?_
   refine call_list_range (n:=j.toNat) (I.ok.hd hc) (IsRange.new ..) (small_one (by omega) (by omega) (by omega) (by omega)) (by rw [rangeSize_one]; split <;> omega) (by omega) fun h' tk acc' c' kp e ht=>?_
   have I2:Inv X pins σ H1 { s1 with heap:=s1.heap.push { cls:=.type "range",data:=.fields #[.int 0 s1.toks,.int j t,.int 1 (s1.toks + 1)] },toks:=s1.toks + 1 + 1 }:=I1.kept fun b ob q=>k_ _ q
   have hp:=I2.hok.fresh (m_ _)
   obtain ⟨vs,rv,rp⟩:=nz (K:=X.K) (H:=H1) j.toNat 0 acc'.toList (by rw [Gi]; exact ht.1) (fun k v hk=>by
    obtain ⟨t,rfl⟩:=ht.2 k v (by simpa using hk)
    exact ⟨t,by congr 1; omega⟩)
   have hz:vs.length≤sizeLine:=by
    rw [rv.length,Gi,ht.1]
    have:(64:Nat)≤sizeLine:=by decide
    omega
   exact ⟨.ref _,_,I2.laid (t':=tk) kp (m_ _) (show ObjOk X.prog X.w _ h' _ (.lst vs) from ⟨hz,acc'.toList,c',rv,by rw [Array.toArray_toList]; exact e⟩),rfl,q _ _ (aq hp _) ⟨_,vs,rfl,ao,Reps.mono (aq hp _) _ _ rp⟩⟩⟩
theorem tI {X:Cx} {a:C_} {fa:FnE} {k:Nat} {p0 p1 p2 pos:Pos} (ha:FE X a fa):FE X (.Subscript a (.Slice ck ck (a_ (.UnaryOp .USub (.Constant (.int 1) k p0) p1)) p2) pos) (iG fa):=nk ha (uo ul)
theorem qS {P:n_} {w:y_} {K:c_} {mg mb:Str→Option d_} {CX:CXT} {k:Nat} {fa a Pt:i_} {qn:Str} {fd:F8} {x:Str} {sp:Sp} {s₁:ge} {vs:List d_} {ns:List Int}
 (KX:K.In s₁.heap) (hns:s₁.heap.Ns rl mg) (hb:s₁.heap.Ns builtinsNs mb) (hbb:∀ x:Str,x≠"__name__"→mb x=Go x) (hlim:s₁.heap.NoLimit) (hg:s₁.gens=#[])
 (ha:s₁.heap.get? a=a_ { cls:=.type "list",data:=.seq vs.toArray }) (hi:Ke vs ns) (hl:ns.length≤sizeLine) (hr:Room k Iy)
 (hPt:s₁.heap.get? Pt=a_ { cls:=.none,data:=.fields #[] }) (hct:Le s₁.heap Pt) (hKP:K.lookup Pt=ck)
 (F:∀ base:FF,K.In base→base.Ns rl mg→FnOk P w K mg base CX k fa fd [x] sp) (hbind:∀ (s:ge) (u:d_),Ji s fd ⟨[u],[]⟩ [(x,u)])
 (hsp:∀ H:Hp,SqL K H a (ns.map V.int)→TBL Pt qn H→sp [.ref a] H (fun v _=>v=.bl e_) fun _ _ _=>False)
 (hCX:∀ H e s',CX [] H s₁ (fun _ _ _=>False) e s'→False) :
 H_ (x_ P w) Iy (.call (.ref fa) ⟨[.ref a],[]⟩) (fun r s'=>r=.ok (.ret (.bool e_))∧OldK s₁.heap s'.heap∧s'.os=s₁.os∧IU s'.gens) s₁:=by
 have rv:=eD hi
 have lenV:=hi.length
 have haP:a≠Pt:=fun z=>by rw [z,hPt] at ha; cases ha
 have core:∀ H:Hp,H Pt=a_ (.tbl #[.str qn 0])→(∀ b,b≠Pt→H b=ck∨∃ o xs,H b=a_ (.frz o (.lst xs)))→SqL K H a (ns.map V.int)→HOk P w H s₁.heap→(∀ b,H b≠ck→b=a∨b=Pt)→(H a≠ck→K.lookup a=ck) →
  H_ (x_ P w) Iy (.call (.ref fa) ⟨[.ref a],[]⟩) (fun r s'=>r=.ok (.ret (.bool e_))∧OldK s₁.heap s'.heap∧s'.os=s₁.os∧IU s'.gens) s₁:=by
  intro H hT hO hS hok hA hK
  have base_of:∀ {b:i_} {o:Obj},s₁.heap.get? b=a_ o→H b=ck→(mD s₁.heap H).get? b=a_ o:=fun e n=>mE e n
  have noA:∀ {b:i_} {o:Obj} {es:Array DictEntry} {ep:Nat},s₁.heap.get? b=a_ o→o.data=.dict es ep→H b=ck:=fun {b o es ep} e d=>by
   cases q:H b with
   | none=>rfl
   | some u =>
    rcases hA b (by rw [q]; simp) with rfl | rfl
    · rw [ha] at e; cases e
      have d':Data.seq vs.toArray _=Hl es ep:=d
      cases d'
    · rw [hPt] at e; cases e
      have d':Ll #[]=Hl es ep:=d
      cases d'
  have nsK:∀ {b:i_} {m:Str→Option d_},s₁.heap.Ns b m→(mD s₁.heap H).Ns b m:=fun {b m} ⟨o,es,ep,e,d,r⟩=>⟨o,es,ep,base_of e (noA e d),d,r⟩
  have hKb:K.In (mD s₁.heap H):=fun b o e=>base_of (KX b o e) (by
   cases q:H b with
   | none=>rfl
   | some u =>
    rcases hA b (by rw [q]; simp) with rfl | rfl
    · rw [hK (by rw [q]; simp)] at e; cases e
    · rw [hKP] at e; cases e)
  have hM:Mod K mg (mD s₁.heap H):=⟨hKb,nsK hns,⟨mb,nsK hb,hbb⟩,let ⟨mc,h1,h2⟩:=hlim; ⟨mc,nsK h1,h2⟩⟩
  have e0:Env0 P w K mg (mD s₁.heap H) Iy [] s₁ H:=⟨rfl,hM,fun b o e=>oR e,Im (ke _ _),trivial,fun b hb=>absurd (show b∈([]:List i_) from hb) (by simp),hok,.of_eq hg⟩
  refine HK ((F _ hKb (nsK hns)).run Iy [] s₁ H ⟨[.ref a],[]⟩ [.ref a] [.ref a] _ _ hr e0 (hbind s₁ (.ref a)) (.cons rfl .nil) (hsp H hS ⟨_,0,hT,rfl⟩)) fun r s' h=>?_
  cases r with
  | error e=>exact (hCX H e s' h).elim
  | ok fl =>
   cases fl with
   | next=>exact FK h
   | brk=>exact FK h
   | cont=>exact FK h
   | ret u =>
    obtain ⟨v,H',os,bare,un,hok',r',q⟩:=h
    have q':v=.bl e_:=q
    subst q'
    obtain rfl:u=Gk e_:=r'
    have kp:∀ b o,b≠Pt→s₁.heap.get? b=a_ o→s'.heap.get? b=a_ o:=fun b o hbP e=>by
     cases q:H b with
     | none=>exact un.keep b o e q (by intro z; exact absurd (show b∈([]:List i_) from z) (by simp)) (by simp)
     | some u =>
      rcases hO b hbP with z | ⟨ob,xs,z⟩
      · rw [q] at z; cases z
      · have z2:=un.frzs b ob _ z
        obtain ⟨e1,_⟩:=hok b _ z
        obtain ⟨e2,_⟩:=hok' b _ z2
        rw [e] at e1; cases e1
        exact e2
    obtain ⟨more,hT'⟩:=un.tbls Pt _ hT
    obtain ⟨qs,eq',_⟩:=hok' Pt _ hT'
    refine ⟨rfl,⟨fun b o e=>?_,fun b o e=>?_⟩,os,bare⟩
    · by_cases hbP:b=Pt
      · subst hbP
        rw [hPt] at e
        cases e
        exact .inr (.inl ⟨hct,rfl,#[],qs,rfl,by rw [eq']; simp⟩)
      · exact .inl (kp b o hbP e)
    · by_cases hbP:b=Pt
      · subst hbP
        exact ⟨_,eq'⟩
      · exact ⟨o,kp b o hbP e⟩
 have okT:∀ H:Hp,ObjOk P w H s₁.heap Pt (.tbl #[.str qn 0]):=fun H=>⟨#[],hPt,trivial,fun pos v hv=>by cases hv⟩
 cases hk:K.lookup a with
 | some o =>
  have e:=KX a o hk
  rw [ha] at e
  cases e
  refine core (fun b=>if b=Pt then a_ (.tbl #[.str qn 0]) else ck) (if_pos rfl) (fun b hb=>.inl (if_neg hb)) (.inr ⟨_,vs.toArray,_,hk,rfl,rfl,rfl,by rw [uk,lenV]; exact hl,by simpa using rv⟩) (fun b u z=>?_) (fun b z=>?_) fun z=>absurd (if_neg haP) z
  · by_cases hb:b=Pt
    · have z':=(if_pos hb).symm.trans z
      cases z'
      subst hb
      exact okT _
    · have z':=(if_neg hb).symm.trans z
      cases z'
  · by_cases hb:b=Pt
    · exact .inr hb
    · exact absurd (if_neg hb) z
 | none =>
  refine core (fun b=>if b=Pt then a_ (.tbl #[.str qn 0]) else if b=a then a_ (.frz { cls:=.type "list",data:=.seq vs.toArray } (.lst (ns.map V.int))) else ck) (if_pos rfl) (fun b hb=>?_) (.inl (.inr ⟨{ cls:=.type "list",data:=.seq vs.toArray },(if_neg haP).trans (if_pos rfl)⟩)) (fun b u z=>?_) (fun b z=>?_) fun _=>hk
  · by_cases hba:b=a
    · exact .inr ⟨_,_,by rw [if_neg hb,if_pos hba]⟩
    · exact .inl (by rw [if_neg hb,if_neg hba])
  · by_cases hb:b=Pt
    · have z':=(if_pos hb).symm.trans z
      cases z'
      subst hb
      exact okT _
    · have z1:=(if_neg hb).symm.trans z
      by_cases hba:b=a
      · have z':=(if_pos hba).symm.trans z1
        cases z'
        subst hba
        exact ⟨ha,by rw [Gb]; exact hl,vs,_,rv,ha⟩
      · have z':=(if_neg hba).symm.trans z1
        cases z'
  · by_cases hb:b=Pt
    · exact .inr hb
    · by_cases hba:b=a
      · exact .inl hba
      · exact absurd (by rw [if_neg hb,if_neg hba]) z
theorem tJ {l:Jt} {n k:Nat} {q:n_} {loose:List Str} {XP:(Str→Option d_)→FF→Prop} {YP:y_→FF→Prop} {d:DefRec} {K:Je→c_} {CX:y_→CXT} {sp:y_→Sp} {x:Str} {Pt:i_} {qn:Str}
 (hn:l.most=a_ n) (hn2:n≤sizeLine) (hdf:d.params.defaults=[]) (hr:Room k Iy)
 (hY:∀ (w:y_) (h:FF),YP w h→(K w.params).In h) (hYT:∀ (w:y_) (h:FF),YP w h→h.get? Pt=a_ { cls:=.none,data:=.fields #[] }∧Le h Pt∧(K w.params).lookup Pt=ck)
 (F:∀ (w:y_) (mg:Str→Option d_) (fa:i_) (h:FF),(K w.params).In h→h.Ns rl mg→mg d.name=a_ (.ref fa) →
   ∃ fd:F8,(∀ (s:ge) (u:d_),Ji s fd ⟨[u],[]⟩ [(x,u)]) ∧
    ∀ base:FF,(K w.params).In base→base.Ns rl mg→FnOk l.prog w (K w.params) mg base (CX w) k fa fd [x] (sp w))
 (hsp:∀ (w:y_) (H:Hp) (a:i_) (ns:List Int),ns.length≤n→SqL (K w.params) H a (ns.map V.int)→TBL Pt qn H→sp w [.ref a] H (fun v _=>v=.bl e_) fun _ _ _=>False)
 (hCX:∀ (w:y_) (H:Hp) (s:ge) (e:d_) (s':ge),CX w [] H s (fun _ _ _=>False) e s'→False) :
 LJ q loose XP YP l.row.toRowW d [] (fun f vs=>LO f vs):=by
 refine Att.attach_call hn hdf fun w s₀ s₁ mg mb fa o pm cd doc a vs ns G Y ho hd hcd hmg hobj hints hlen hg=>?_
 have KX:=hY w _ Y
 obtain ⟨fd,hb,hF⟩:=F w mg fa _ KX G.T.g hmg
 obtain ⟨t1,t2,t3⟩:=hYT w _ Y
 exact qS KX G.T.g G.T.b G.T.builtins G.T.nolimit hg hobj hints (F6 hlen hn2) hr t1 t2 t3 hF hb (fun H hS hT=>hsp w H a ns hlen hS hT) fun H e s'=>hCX w H s₁ e s'
theorem Dl {c:FnB} {f g:FnS} {ρ:Ev} (h:c ρ=a_ (.ok e_)):aX c f g ρ=f ρ:=by
 unfold aX; rw [h]; rfl
theorem bg {α:Type} {p:α→Bool} {l:List α} (h:l.all p=e_) {x:α} (hx:x∈l):p x=e_:=Gy.mp h x hx
end FD
namespace G
open PySem PySem.Spec PyProof.Rows L2 FD
def top (i:Nat):GT:=PySem.Challenge.pw_notejar_k52_sent.main.body.getD i (.Pass ⟨0,0,0,0⟩)
section
variable {X:Cx} {a b c o e:C_} {es:List C_} {fa fb fc fo:FnE} {ga:FnA} {pos p pt apos cpos:Pos}
theorem Ai (ha:FE X a fa) (hb:FE X b fb):FE X (.BinOp a .Add b pos) (f2 cB fa fb):=lL o_add yS ha hb
theorem Aj (ha:FE X a fa) (hb:FE X b fb):FE X (.BinOp a .Add b pos) (f2 bM fa fb):=lL zw zx ha hb
theorem Ak (ha:FE X a fa) (hb:FE X b fb):FE X (.BinOp a .Sub b pos) (f2 vw fa fb):=lL yh Ch ha hb
theorem Al (ha:FE X a fa) (hb:FE X b fb):FE X (.BinOp a .Mult b pos) (f2 hW fa fb):=lL ug yT ha hb
theorem Am (ha:FE X a fa) (hb:FE X b fb):FE X (.BinOp a .Mod b pos) (f2 gh fa fb):=lL yi Ci ha hb
theorem wD (ha:FE X a fa) (hb:FE X b fb):FE X (.BinOp a .FloorDiv b pos) (f2 gk fa fb):=lL uW yU ha hb
theorem An (ha:FE X a fa) (hb:FE X b fb):FE X (.BinOp a .Mult b pos) (f2 xJ fa fb):=lL zR zS ha hb
theorem Ao (hu:X.A.units + 64 < cLine) (ha:FE X a fa) (hb:FE X b fb) (hm:FL .Eq b=f_:=by kernel_rfl):FT X (.Compare a [.Eq] [b] pos) (fB (f2 eqX fa fb)):=fF (y8 hu) y9 ha hb hm
theorem Ap (hu:X.A.units + 64 < cLine) (ha:FE X a fa) (hb:FE X b fb) (hm:FL .NotEq b=f_:=by kernel_rfl):FT X (.Compare a [.NotEq] [b] pos) (fB (f2 neX fa fb)):=fF (Cw hu) Cy ha hb hm
theorem Aq (ha:FE X a fa) (hb:FE X b fb) (hm:FL .Lt b=f_:=by kernel_rfl):FT X (.Compare a [.Lt] [b] pos) (fB (f2 ltX fa fb)):=fF za zb ha hb hm
theorem Ar (ha:FE X a fa) (hb:FE X b fb) (hm:FL .LtE b=f_:=by kernel_rfl):FT X (.Compare a [.LtE] [b] pos) (fB (f2 leX fa fb)):=fF zH zI ha hb hm
theorem As (ha:FE X a fa) (hb:FE X b fb) (hm:FL .Gt b=f_:=by kernel_rfl):FT X (.Compare a [.Gt] [b] pos) (fB (f2 gtD fa fb)):=fF BZ (Ck _) ha hb hm
theorem At (ha:FE X a fa) (hb:FE X b fb) (hm:FL .Is b=f_:=by kernel_rfl):FT X (.Compare a [.Is] [b] pos) (fB (f2 isN fa fb)):=fF uh yV ha hb hm
theorem wE (ha:FE X a fa) (hb:FE X b fb) (hm:FL .IsNot b=f_:=by kernel_rfl):FT X (.Compare a [.IsNot] [b] pos) (fB (f2 gI fa fb)):=fF pf ut ha hb hm
theorem wF (hu:X.A.units < cLine) (ha:FE X a fa) (hb:FE X b fb) (hm:FL .Eq b=f_:=by kernel_rfl):FT X (.Compare a [.Eq] [b] pos) (fB (f2 Bt fa fb)):=fF (Cu hu) Cv ha hb hm
theorem Au (ha:FE X a fa) (hb:FE X b fb) (hm:FL .In b=f_:=by kernel_rfl):FT X (.Compare a [.In] [b] pos) (fB (f2 inD fa fb)):=fF o_in Cp ha hb hm
theorem Av (hu:X.A.units + 64 < cLine) (ha:FE X a fa) (hb:FE X b fb) (hm:FL .In b=f_:=by kernel_rfl):FT X (.Compare a [.In] [b] pos) (fB (f2 inX fa fb)):=fF (CI hu) CK ha hb hm
theorem Aw (hu:X.A.units + 64 < cLine) (ha:FE X a fa) (hb:FE X b fb) (hm:FL .Eq b=f_:=by kernel_rfl):FE X (.Compare a [.Eq] [b] pos) (f2 eqX fa fb):=iw (y8 hu) y9 ha hb hm
theorem Ax (ha:FE X a fa) (hb:FE X b fb) (hm:FL .Lt b=f_:=by kernel_rfl):FE X (.Compare a [.Lt] [b] pos) (f2 ltX fa fb):=iw za zb ha hb hm
theorem Ay (ha:FE X a fa) (hb:FE X b fb) (hm:FL .LtE b=f_:=by kernel_rfl):FE X (.Compare a [.LtE] [b] pos) (f2 leX fa fb):=iw zH zI ha hb hm
theorem Az (ha:FE X a fa) (hb:FE X b fb) (hm:FL .Is b=f_:=by kernel_rfl):FE X (.Compare a [.Is] [b] pos) (f2 isN fa fb):=iw uh yV ha hb hm
theorem wG (ha:FE X a fa) (hb:FE X b fb) (hm:FL .IsNot b=f_:=by kernel_rfl):FE X (.Compare a [.IsNot] [b] pos) (f2 gI fa fb):=iw pf ut ha hb hm
theorem AA (ha:FE X a fa) (hb:FE X b fb) (hm:FL .In b=f_:=by kernel_rfl):FE X (.Compare a [.In] [b] pos) (f2 inD fa fb):=iw o_in Cp ha hb hm
theorem qT (ha:FE X a fa) (hb:FE X b fb) (hm:FL .NotIn b=f_:=by kernel_rfl):FE X (.Compare a [.NotIn] [b] pos) (f2 mR fa fb):=iw vx vy ha hb hm
theorem AB (hm:X.mg "isinstance"=ck) (hn:X.mg "int"=ck) (ha:FE X a fa) (hg:X.env.kindOf (b_ "isinstance")=a_ .globalImplicit:=by kernel_rfl) (hg2:X.env.kindOf (b_ "int")=a_ .globalImplicit:=by kernel_rfl) (hs1:h_ [a,.Name (b_ "int") pt] X.env=(f_,eval a X.env) :: h_ [.Name (b_ "int") pt] X.env:=by kernel_rfl) (hs2:h_ [.Name (b_ "int") pt] X.env=(f_,eval (.Name (b_ "int") pt) X.env) :: h_ [] X.env:=by kernel_rfl) (hpl:(FP pos (h_ [.Name (b_ "int") pt] X.env)).any (·.1)=f_:=by kernel_rfl):FE X (.Call (.Name "isinstance" p) [a,.Name (b_ "int") pt] [] pos) (f1 (dh cM) fa):=mU (T:="int") v7 zF (by decide +kernel) (by kernel_rfl) hg hm hg2 hn ha hs1 hs2 hpl
theorem AC (hm:X.mg "isinstance"=ck) (hn:X.mg "str"=ck) (ha:FE X a fa) (hg:X.env.kindOf (b_ "isinstance")=a_ .globalImplicit:=by kernel_rfl) (hg2:X.env.kindOf (b_ "str")=a_ .globalImplicit:=by kernel_rfl) (hs1:h_ [a,.Name (b_ "str") pt] X.env=(f_,eval a X.env) :: h_ [.Name (b_ "str") pt] X.env:=by kernel_rfl) (hs2:h_ [.Name (b_ "str") pt] X.env=(f_,eval (.Name (b_ "str") pt) X.env) :: h_ [] X.env:=by kernel_rfl) (hpl:(FP pos (h_ [.Name (b_ "str") pt] X.env)).any (·.1)=f_:=by kernel_rfl):FE X (.Call (.Name "isinstance" p) [a,.Name (b_ "str") pt] [] pos) (f1 (dh cL) fa):=mU (T:="str") vD y2 (by decide +kernel) (by kernel_rfl) hg hm hg2 hn ha hs1 hs2 hpl
theorem tK (hm:X.mg "isinstance"=ck) (hn:X.mg "tuple"=ck) (ha:FE X a fa) (hg:X.env.kindOf (b_ "isinstance")=a_ .globalImplicit:=by kernel_rfl) (hg2:X.env.kindOf (b_ "tuple")=a_ .globalImplicit:=by kernel_rfl) (hs1:h_ [a,.Name (b_ "tuple") pt] X.env=(f_,eval a X.env) :: h_ [.Name (b_ "tuple") pt] X.env:=by kernel_rfl) (hs2:h_ [.Name (b_ "tuple") pt] X.env=(f_,eval (.Name (b_ "tuple") pt) X.env) :: h_ [] X.env:=by kernel_rfl) (hpl:(FP pos (h_ [.Name (b_ "tuple") pt] X.env)).any (·.1)=f_:=by kernel_rfl):FE X (.Call (.Name "isinstance" p) [a,.Name (b_ "tuple") pt] [] pos) (f1 (dh cx) fa):=mU (T:="tuple") vE ss (by decide +kernel) (by kernel_rfl) hg hm hg2 hn ha hs1 hs2 hpl
theorem wH (hm:X.mg "isinstance"=ck) (hn:X.mg "bool"=ck) (ha:FE X a fa) (hg:X.env.kindOf (b_ "isinstance")=a_ .globalImplicit:=by kernel_rfl) (hg2:X.env.kindOf (b_ "bool")=a_ .globalImplicit:=by kernel_rfl) (hs1:h_ [a,.Name (b_ "bool") pt] X.env=(f_,eval a X.env) :: h_ [.Name (b_ "bool") pt] X.env:=by kernel_rfl) (hs2:h_ [.Name (b_ "bool") pt] X.env=(f_,eval (.Name (b_ "bool") pt) X.env) :: h_ [] X.env:=by kernel_rfl) (hpl:(FP pos (h_ [.Name (b_ "bool") pt] X.env)).any (·.1)=f_:=by kernel_rfl):FE X (.Call (.Name "isinstance" p) [a,.Name (b_ "bool") pt] [] pos) (f1 (dh bh) fa):=mU (T:="bool") sr vI (by decide +kernel) (by kernel_rfl) hg hm hg2 hn ha hs1 hs2 hpl
theorem jZ (ho:FE X o fo) (ha:FA X (e :: es) ga) (h:SmL X o "startswith" e es apos cpos:=by exact ⟨by kernel_rfl,by kernel_rfl,by kernel_rfl,by kernel_rfl,by kernel_rfl⟩):FE X (.Call (.Attribute o "startswith" apos) (e :: es) [] cpos) (fM (lG G5) fo ga):=lZ PySem.F.slot_str_startswith PySem.F.type_str_startswith Cr uw ho ha h
theorem l7 (ho:FE X o fo) (ha:FA X (e :: es) ga) (h:SmL X o "endswith" e es apos cpos:=by exact ⟨by kernel_rfl,by kernel_rfl,by kernel_rfl,by kernel_rfl,by kernel_rfl⟩):FE X (.Call (.Attribute o "endswith" apos) (e :: es) [] cpos) (fM (lG Ij) fo ga):=lZ PySem.F.slot_str_endswith PySem.F.type_str_endswith Ct uw ho ha h
theorem tL (ho:FE X o fo) (ha:FA X (e :: es) ga) (h:SmL X o "split" e es apos cpos:=by exact ⟨by kernel_rfl,by kernel_rfl,by kernel_rfl,by kernel_rfl,by kernel_rfl⟩):FE X (.Call (.Attribute o "split" apos) (e :: es) [] cpos) (fM (jk) fo ga):=lZ IP PySem.F.type_str_split su vJ ho ha h
theorem wI (ho:FE X o fo) (ha:FA X (e :: es) ga) (h:SmL X o "join" e es apos cpos:=by exact ⟨by kernel_rfl,by kernel_rfl,by kernel_rfl,by kernel_rfl,by kernel_rfl⟩):FE X (.Call (.Attribute o "join" apos) (e :: es) [] cpos) (fM (gm) fo ga):=lZ PySem.F.slot_str_join PySem.F.type_str_join vK zd ho ha h
theorem k7 (ho:FE X o fo) (ha:FA X (e :: es) ga) (h:SmL X o "partition" e es apos cpos:=by exact ⟨by kernel_rfl,by kernel_rfl,by kernel_rfl,by kernel_rfl,by kernel_rfl⟩):FE X (.Call (.Attribute o "partition" apos) (e :: es) [] cpos) (fM (sv) fo ga):=lZ Ks PySem.F.type_str_partition vL zf ho ha h
theorem wJ (ho:FE X o fo) (ha:FA X (e :: es) ga) (h:SmL X o "find" e es apos cpos:=by exact ⟨by kernel_rfl,by kernel_rfl,by kernel_rfl,by kernel_rfl,by kernel_rfl⟩):FE X (.Call (.Attribute o "find" apos) (e :: es) [] cpos) (fM (Bs Txt.find) fo ga):=lZ PySem.F.slot_str_find PySem.F.type_str_find vG y1 ho ha h
theorem AD (ho:FE X o fo) (ha:FA X (e :: es) ga) (h:SmL X o "index" e es apos cpos:=by exact ⟨by kernel_rfl,by kernel_rfl,by kernel_rfl,by kernel_rfl,by kernel_rfl⟩):FE X (.Call (.Attribute o "index" apos) (e :: es) [] cpos) (fM Bz fo ga):=lZ PySem.F.slot_str_index PySem.F.type_str_index zz CL ho ha h
theorem dN {x:Str} (h:FE X (.Name x p) fa):FE X (.Name x p) fa:=h
theorem dC {k:Const} {n:Nat} (h:FE X (.Constant k n p) fa):FE X (.Constant k n p) fa:=h
theorem dA (h:FA X es ga):FA X es ga:=h
theorem dK {x:Str} {ks:List Hy} (h:FE X (.Call (.Name x p) es ks pos) fa):FE X (.Call (.Name x p) es ks pos) fa:=h
theorem dM {x:Str} {ks:List Hy} (h:FE X (.Call (.Attribute o x p) es ks pos) fa):FE X (.Call (.Attribute o x p) es ks pos) fa:=h
theorem dB {op:Operator} (h:FE X (.BinOp a op b pos) fa):FE X (.BinOp a op b pos) fa:=h
theorem dQ {ops:List CmpOp} (h:FE X (.Compare a ops es pos) fa):FE X (.Compare a ops es pos) fa:=h
theorem dT {fb:FnB} (h:FT X a fb):FT X a fb:=h
theorem dW {fb:FnB} (h:FW X a fb):FW X a fb:=h
theorem dE (h:FE X a fa):FE X a fa:=h
theorem dSs {st:List GT} {f:FnS} (h:FSs X st f):FSs X st f:=h
theorem dS {st:GT} {f:FnS} (h:FS X st f):FS X st f:=h
end
local macro_rules | `(tactic| walk_at "x")=>`(tactic| (first
 | with_reducible (refine dN ?_; first
  | exact Ca _ (by kernel_rfl) (by kernel_rfl!)
  | exact Cb _ (by kernel_rfl) (by kernel_rfl!)
  | exact C8 (by with_unfolding_all assumption) (by kernel_rfl!)
  | exact C9 (by with_unfolding_all assumption) (by kernel_rfl!))
 | with_reducible (refine dC ?_; first
  | exact ul
  | exact yA
  | exact Cc
  | exact yz)
 | with_reducible (refine dA ?_; first
  | exact pE
  | refine lN ?_ ?_)
 | with_reducible (refine dK ?_; first
  | refine qP (N:=["note"]) (by with_unfolding_all assumption) (by with_unfolding_all assumption) (by with_unfolding_all assumption) (by with_unfolding_all assumption) (by with_unfolding_all assumption) ?_ ?_
  | refine sZ (by with_unfolding_all assumption) (by with_unfolding_all assumption) (by kernel_rfl!) ?_
  | refine qI (by with_unfolding_all assumption) (by with_unfolding_all assumption) (by kernel_rfl!) (by kernel_rfl) ?_
  | refine qO (by with_unfolding_all assumption) (by with_unfolding_all assumption) (by with_unfolding_all assumption) (by kernel_rfl!) ?_
  | refine oz (by with_unfolding_all assumption) (by with_unfolding_all assumption) (by with_unfolding_all assumption) (by kernel_rfl!) (by kernel_rfl) ?_
  | refine qJ (by with_unfolding_all assumption) (by with_unfolding_all (first | assumption | exact RoomM.of (by assumption) | exact wx (by assumption))) (by kernel_rfl!) ?_
  | refine qu ?_ (by kernel_rfl) (glb (by kernel_rfl)) ?_ (glb (by kernel_rfl)) ?_ ?_
  | refine tH (by kernel_rfl) (glb (by kernel_rfl)) ?_ (glb (by kernel_rfl)) ?_ ?_
  | refine yY (glb (by kernel_rfl)) ?_ ?_
  | refine sw (glb (by kernel_rfl)) ?_ ?_
  | refine vT (glb (by kernel_rfl)) ?_ ?_
  | refine yZ (by kernel_rfl) (glb (by kernel_rfl)) ?_ ?_
  | refine zG (by kernel_rfl) (glb (by kernel_rfl)) ?_ ?_
  | refine AB ?_ ?_ ?_
  | refine AC ?_ ?_ ?_
  | refine tK ?_ ?_ ?_
  | refine wH ?_ ?_ ?_
  | refine zp (T:="ValueError") (by with_unfolding_all exact XAllS.xtV (by assumption)) jQ (by decide +kernel) (by kernel_rfl) (glb (by kernel_rfl)) ?_ (glb (by kernel_rfl)) ?_ ?_
  | refine zo (by with_unfolding_all exact XAllS.xtO (by assumption) _ (by decide)) (by with_unfolding_all exact CA.c (by assumption) (by decide) rfl) (glb (by kernel_rfl)) (by kernel_rfl) (glb (by kernel_rfl)) ?_ ?_)
 | with_reducible (refine dM ?_; first
  | refine jZ ?_ ?_
  | refine l7 ?_ ?_
  | refine tL ?_ ?_
  | refine wI ?_ ?_
  | refine k7 ?_ ?_
  | refine wJ ?_ ?_
  | refine AD ?_ ?_
  | refine sK ?_ ?_
  | refine sy ?_ ?_)
 | with_reducible (refine dB ?_; first
  | refine Ai ?_ ?_
  | refine Aj ?_ ?_
  | refine Ak ?_ ?_
  | refine Al ?_ ?_
  | refine Am ?_ ?_
  | refine wD ?_ ?_
  | refine An ?_ ?_)
 | with_reducible (refine dQ ?_; first
  | refine Aw ?_ ?_ ?_
  | refine Ax ?_ ?_
  | refine Ay ?_ ?_
  | refine Az ?_ ?_
  | refine wG ?_ ?_
  | refine AA ?_ ?_
  | refine qT ?_ ?_)
 | with_reducible (refine dT ?_; first
  | refine Ao ?_ ?_ ?_
  | refine Ap ?_ ?_ ?_
  | refine Aq ?_ ?_
  | refine Ar ?_ ?_
  | refine As ?_ ?_
  | refine At ?_ ?_
  | refine wE ?_ ?_
  | refine wF ?_ ?_ ?_
  | refine Au ?_ ?_
  | refine Av ?_ ?_ ?_
  | refine FW.ft (um ?_ ?_)
  | refine FW.ft (yD ?_ ?_)
  | refine yE ?_
  | refine yB ?_)
 | with_reducible (refine dW ?_; first
  | refine um ?_ ?_
  | refine yD ?_ ?_
  | refine vm ?_
  | refine yC ?_)
 | with_reducible (refine dE ?_; first
  | refine Ah (by with_unfolding_all assumption) ?_ ?_ ?_
  | refine z8 ?_ ?_
  | refine yK ?_
  | refine yJ ?_
  | refine yF ?_
  | refine yG ?_ ?_
  | refine Cd ?_ ?_
  | refine yH ?_
  | refine uo ?_
  | refine Ce ?_ ?_ ?_
  | refine qK ?_ ?_
  | refine yW ?_ ?_ ?_
  | refine vS ?_ ?_ ?_
  | refine Da ?_ ?_ ?_
  | refine Db ?_ ?_ ?_
  | refine De ?_ ?_ ?_
  | refine tI ?_)
 | with_reducible (refine dSs ?_; first
  | exact vn
  | refine lO ?_
  | refine tw ?_ ?_
  | refine sd ?_ ?_)
 | with_reducible (refine dS ?_; first
  | refine pF ?_
  | refine Cf ?_ ?_ ?_
  | refine vo ?_
  | refine Dd ?_ ?_ ?_ (by kernel_rfl!)
  | refine Df ?_ ?_ ?_ (by kernel_rfl!)
  | refine wn ?_
  | refine wp ?_ ?_ ?_
  | refine sE _ (by with_unfolding_all exact XAllS.xc (by assumption) _ (by decide)) (by kernel_rfl) (by with_unfolding_all exact CA.c (by assumption) (by decide) rfl) (by kernel_rfl) (by kernel_rfl) (glb (by kernel_rfl)) ?_
  | refine zr _ _ _ (by kernel_rfl) (by kernel_rfl) (by kernel_rfl) (glb (by kernel_rfl)) (by with_unfolding_all exact CA.j (by assumption)) (by with_unfolding_all exact XAllS.exJ (by assumption)) (by with_unfolding_all exact CA.xk (by assumption)) (h8 (by kernel_rfl)) (by kernel_rfl) (by kernel_rfl) (by kernel_rfl) ?_ ?_)
 | with_reducible refine qR ?_
 | with_reducible exact qQ
 | with_reducible intro _ _ _ _ (_:TBL _ _ _)
 | refine oA (by with_unfolding_all assumption) (by with_unfolding_all assumption) (by with_unfolding_all assumption) (by kernel_rfl!) (by kernel_rfl!) (by kernel_rfl!) (by kernel_rfl) ?_ ?_
 | with_reducible exact vz
 | with_reducible refine vA ?_
 | with_reducible exact tj
 | with_reducible refine tq ?_
 | with_reducible intro _ _ _ _
 | with_reducible refine pH (glb (by kernel_rfl)) ?_ ?_
 | with_reducible refine pI (glb (by kernel_rfl)) ?_ ?_
 | with_reducible refine yO ?_
 | with_reducible refine sC (glb (by kernel_rfl)) ?_ ?_
 | with_reducible refine FI.toG ?_
 | with_reducible intro _ _
 | with_reducible exact vZ
 | with_reducible refine v3 ?_
 | with_reducible refine sP ?_ ?_
 | with_reducible refine zC ?_
 | with_reducible refine zB ?_ ?_ ?_
 | with_reducible refine wu ?_ (wt (by kernel_rfl) (by kernel_rfl) (by kernel_rfl) (by kernel_rfl))
 | with_reducible refine wo ?_
 | with_reducible refine wq ?_ ?_ ?_
 | assumption
 | exact MA.no (by assumption) (by kernel_rfl)
 | exact Room.units (by assumption)
 | exact RoomM.units (by assumption)
 | exact Room.units0 (by assumption)
 | exact PassesOwn.never
 | exact PassesOwn.leaving) <;> walk_at "x")
local macro_rules | `(tactic| walk_at "b")=>`(tactic| (intros; (conv=>arg 2; whnf); walk_at "x"))
local macro_rules | `(tactic| walk_at "d")=>`(tactic| (intro _ _ _ _ _ _ us hl; rcases us with _ | ⟨_,_ | ⟨_,_ | ⟨_,_ | ⟨_,_ | ⟨_,_ | ⟨_,_ | ⟨_,_ | ⟨_,us⟩⟩⟩⟩⟩⟩⟩⟩ <;> first | rfl | cases hl))
def CC:xK:=[cN "ValueError",cN "all",cN "bool",cN "enumerate",cN "int",cN "isinstance",cN "len",cN "list",cN "max",cN "range",cN "set",cN "sorted",cN "str",cN "tuple",cI "ASK_HOUSE" 1,cI "ASK_ORIGIN" 3,cI "ASK_PARTS" 4,cI "ASK_PATH" 2,cI "ASK_SAFE" 0,cS "FIGURES" "0123456789",cS "LABEL_SIGNS" "abcdefghijklmnopqrstuvwxyz0123456789-",cI "LAST_MOMENT" 9999,cI "LONGEST_LABEL" 8,cI "LONGEST_NOTE_NAME" 10,cI "LONGEST_PATH" 20,cI "LONGEST_WORTH" 12,cI "MOST_LABELS" 5,cI "MOST_NOTES" 20,cI "MOST_RULES" 8,cI "NOTE_ENDS" 5,cI "NOTE_EXACT" 3,cI "NOTE_HOUSE" 2,cI "NOTE_MADE" 8,cI "NOTE_NAME" 0,cS "NOTE_NAME_SIGNS" "abcdefghijklmnopqrstuvwxyzABCDEFGHIJKLMNOPQRSTUVWXYZ0123456789-_",cI "NOTE_PARTS" 10,cI "NOTE_PATH" 4,cI "NOTE_REACH" 7,cI "NOTE_SAFE" 6,cI "NOTE_USED" 9,cI "NOTE_WORTH" 1,cS "NO_WORTH_SIGNS" ";,=",cS "PATH_SIGNS" "abcdefghijklmnopqrstuvwxyz0123456789-_./"]
def qL:Str:="sent.<locals>.<lambda>"
section
variable {P:n_} {w:y_} {K:c_} {mg:Str→Option d_} {base h:FF} {f:i_} {Pt:i_} {cls:Nat→i_} {CJ:i_} (XI:K.In h) (Gn:h.Ns rl mg) (M:MA mg CC) (bi:Ad K mg) (xa:XAllS K [0,1,2,3,4,5,6] cls CJ) (ca:CA K mg cls CJ [0,1,2,3,4,5,6] 7)
include XI Gn M bi xa ca
def T0:bE:=[]
def TE0:bE:=[]
def TM0:bE:=[]
def TL0:bE:=[]
def TU0:bE:=[]
def cY:FnS:=(aD (br 1 (bW (aa (f1 (isX (fun c=>if ([0,1,2,3,4,5,6]:List Nat).contains c then a_ (c == 0) else ck)) (ac 0)) (aa (f1 (isX (fun c=>if ([0,1,2,3,4,5,6]:List Nat).contains c then a_ (c == 1) else ck)) (ac 0)) (aa (f1 (isX (fun c=>if ([0,1,2,3,4,5,6]:List Nat).contains c then a_ (c == 2) else ck)) (ac 0)) ah))))) (aD (br 1 (f2 cB (ac 1) (bW (aa (f1 (isX (fun c=>if ([0,1,2,3,4,5,6]:List Nat).contains c then a_ (c == 3) else ck)) (ac 0)) (aa (f1 (isX (fun c=>if ([0,1,2,3,4,5,6]:List Nat).contains c then a_ (c == 4) else ck)) (ac 0)) (aa (f1 (isX (fun c=>if ([0,1,2,3,4,5,6]:List Nat).contains c then a_ (c == 5) else ck)) (ac 0)) ah)))))) (aD (br 1 (f2 cB (ac 1) (bW (aa (f1 (isX (fun c=>if ([0,1,2,3,4,5,6]:List Nat).contains c then a_ (c == 6) else ck)) (ac 0)) ah)))) (aD (aX (bOr (fB (f2 neX (fML CG (ac 1) (aa (fC (.bl e_)) ah)) (fC (.int 1)))) (bL (fB (f1 (isX (fun c=>if ([0,1,2,3,4,5,6]:List Nat).contains c then a_ e_ else ck)) (ac 0))))) (aC (ci (aa (fC (.str "refused")) (aa (f1 pK (fC (.int 1))) ah)))) (fun ρ=>a_ (.nx ρ))) (aC (ci (aa (fC (.str "refused")) (aa (fML Bv (ac 1) (aa (fC (.bl e_)) ah)) ah))))))))
def bH:List Dv→Option (Rs Dv):=aY 2 cY
def TM1:bE:=("_law_refused",1,["_law_e"],bH) :: TM0
theorem iM (A:Af K "_law_refused" (top 101) f) (tm:HAM P w K mg base TM0):HAM P w K mg base TM1 :=
 sY (ww XI Gn ["_law_e","_law_flags"] ["_law_e"] cY A (by walk_at "d") (by delta cY; walk_at "b")) tm
def bQ:FnS:=(aD (br 1 (fM (jk) (ac 0) (aa (fC (.str ".")) ah))) (aC (aN [("parts",1)] (fun ρ=>bnd ((aa (fB1 dg (aa (ac 1) ah)) ah) ρ) iz) ck (fM (gm) (fC (.str ".")) (aa (uv (ac 1) (eG (ac 0)) fA) ah)))))
def bR:List Dv→Option (Rs Dv):=aY 2 bQ
def T1:bE:=("ends_longest_first",1,["name"],bR) :: T0
theorem eQ (A:Af K "ends_longest_first" (top 25) f) (t:HA P w K mg base T0):HA P w K mg base T1 :=
 aw (aE XI Gn ["name","parts"] ["name"] bQ A (by walk_at "d") (by delta bQ; walk_at "b")) t
def cm:FnS:=(aC (f2 ixD (fM (sv) (ac 0) (aa (fC (.str ".")) ah)) (fC (.int 2))))
def cq:List Dv→Option (Rs Dv):=aY 1 cm
def T2:bE:=("behind_first_dot",1,["end"],cq) :: T1
theorem fT (A:Af K "behind_first_dot" (top 26) f) (t:HA P w K mg base T1):HA P w K mg base T2 :=
 aw (aE XI Gn ["end"] ["end"] cm A (by walk_at "d") (by delta cm; walk_at "b")) t
def dj:FnS:=(aD (aX (fB (f2 inD (ac 1) (ac 0))) (aC (fC (.bl e_))) (fun ρ=>a_ (.nx ρ))) (aC (dt (f2 inD (fC (.str ".")) (ac 1)) (f2 inD (f2 cB (fC (.str "*.")) (ag cq 1 (aa (ac 1) ah))) (ac 0)))))
def fL:List Dv→Option (Rs Dv):=aY 2 dj
def T3:bE:=("is_told_open",2,["table","end"],fL) :: T2
theorem iN (A:Af K "is_told_open" (top 27) f) (t:HA P w K mg base T2):HA P w K mg base T3 :=
 aw (aE XI Gn ["table","end"] ["table","end"] dj A (by walk_at "d") (by delta dj; walk_at "b")) t
def dz:FnS:=(aX (fB (f2 inD (f2 cB (fC (.str "!")) (ac 3)) (ac 0))) (aC (ag cq 1 (aa (ac 3) ah))) (fun ρ=>a_ (.nx ρ)))
def dD:FnS:=(aX (fB (ag fL 2 (aa (ac 0) (aa (ac 3) ah)))) (aC (ac 3)) (fun ρ=>a_ (.nx ρ)))
def cZ:FnS:=(aD (br 2 (ag bR 1 (aa (ac 1) ah))) (aD (sf 3 [] (cF (ac 2)) dz) (aD (sf 3 [3] (cF (ac 2)) dD) (aC (f2 ixD (ac 2) (f1 pK (fC (.int 1))))))))
def eR:List Dv→Option (Rs Dv):=aY 4 cZ
def T4:bE:=("find_open_end",3,["table","name"],eR) :: T3
theorem ib (A:Af K "find_open_end" (top 28) f) (t:HA P w K mg base T3):HA P w K mg base T4 :=
 aw (aE XI Gn ["table","name","ends","end"] ["table","name"] cZ A (by walk_at "d") (by delta cZ dz dD; walk_at "b")) t
def dk:FnS:=(aD (br 2 (ag eR 2 (aa (ac 0) (aa (ac 1) ah)))) (aD (br 3 (ag bR 1 (aa (ac 1) ah))) (aD (br 4 (fML Bv (ac 3) (aa (ac 2) ah))) (aD (aX (fB (f2 eqX (ac 4) (fC (.int 0)))) (aC (fC .non)) (fun ρ=>a_ (.nx ρ))) (aC (f2 ixD (ac 3) (f2 vw (ac 4) (fC (.int 1)))))))))
def bS:List Dv→Option (Rs Dv):=aY 5 dk
def T5:bE:=("find_own_end",4,["table","name"],bS) :: T4
theorem iO (A:Af K "find_own_end" (top 29) f) (t:HA P w K mg base T4):HA P w K mg base T5 :=
 aw (aE XI Gn ["table","name","end","ends","place"] ["table","name"] dk A (by walk_at "d") (by delta dk; walk_at "b")) t
def aF:FnS:=(aD (br 2 (f2 ixD (ac 1) (fC (.int 1)))) (aD (br 3 (f2 ixD (ac 1) (fC (.int 3)))) (aD (aX (bOr (fB (f2 isN (ac 3) (fC .non))) (fB (f2 eqX (ac 3) (ac 2)))) (aC (fC (.bl e_))) (fun ρ=>a_ (.nx ρ))) (aD (br 4 (ag bS 2 (aa (ac 0) (aa (ac 2) ah)))) (aC (dt (f2 gI (ac 4) (fC .non)) (f2 eqX (ac 4) (ag bS 2 (aa (ac 0) (aa (ac 3) ah))))))))))
def az:List Dv→Option (Rs Dv):=aY 5 aF
def T6:bE:=("comes_from_near",5,["table","ask"],az) :: T5
theorem gy (A:Af K "comes_from_near" (top 47) f) (t:HA P w K mg base T5):HA P w K mg base T6 :=
 aw (aE XI Gn ["table","ask","house","origin","own"] ["table","ask"] aF A (by walk_at "d") (by delta aF; walk_at "b")) t
def dL:FnS:=(aC (dt (f2 gI (f2 ixD (ac 0) (fC (.int 5))) (fC .non)) (f2 leX (f2 ixD (ac 0) (fC (.int 5))) (ac 1))))
def cC:List Dv→Option (Rs Dv):=aY 2 dL
def T7:bE:=("has_ended",1,["note","now"],cC) :: T6
theorem k8 (A:Af K "has_ended" (top 70) f) (t:HA P w K mg base T6):HA P w K mg base T7 :=
 aw (aE XI Gn ["note","now"] ["note","now"] dL A (by walk_at "d") (by delta dL; walk_at "b")) t
def cO:FnS:=(aC (vOr (f2 eqX (ac 0) (ac 1)) (fM (lG Ij) (ac 0) (aa (f2 cB (fC (.str ".")) (ac 1)) ah))))
def aZ:List Dv→Option (Rs Dv):=aY 2 cO
def T8:bE:=("lies_within",1,["one","other"],aZ) :: T7
theorem i4 (A:Af K "lies_within" (top 24) f) (t:HA P w K mg base T7):HA P w K mg base T8 :=
 aw (aE XI Gn ["one","other"] ["one","other"] cO A (by walk_at "d") (by delta cO; walk_at "b")) t
def ii:FnS:=(aD (aX (fB (f2 ixD (ac 0) (fC (.int 3)))) (aC (f2 eqX (f2 ixD (ac 0) (fC (.int 2))) (ac 1))) (fun ρ=>a_ (.nx ρ))) (aC (ag aZ 2 (aa (ac 1) (aa (f2 ixD (ac 0) (fC (.int 2))) ah)))))
def fk:List Dv→Option (Rs Dv):=aY 2 ii
def T9:bE:=("is_for",2,["note","house"],fk) :: T8
theorem qU (A:Af K "is_for" (top 71) f) (t:HA P w K mg base T8):HA P w K mg base T9 :=
 aw (aE XI Gn ["note","house"] ["note","house"] ii A (by walk_at "d") (by delta ii; walk_at "b")) t
def eS:FnS:=(aD (aX (fB (f2 eqX (ac 0) (ac 1))) (aC (fC (.bl e_))) (fun ρ=>a_ (.nx ρ))) (aD (aX (bL (fB (fM (lG G5) (ac 0) (aa (ac 1) ah)))) (aC (fC (.bl f_))) (fun ρ=>a_ (.nx ρ))) (aC (vOr (fM (lG Ij) (ac 1) (aa (fC (.str "/")) ah)) (f2 eqX (f2 ixD (ac 0) (fB1 dg (aa (ac 1) ah))) (fC (.str "/")))))))
def ce:List Dv→Option (Rs Dv):=aY 2 eS
def T10:bE:=("lies_under",1,["path","top"],ce) :: T9
theorem j3 (A:Af K "lies_under" (top 34) f) (t:HA P w K mg base T9):HA P w K mg base T10 :=
 aw (aE XI Gn ["path","top"] ["path","top"] eS A (by walk_at "d") (by delta eS; walk_at "b")) t
def qV:FnS:=(aD (aX (bOr (fB (ag cC 2 (aa (ac 1) (aa (ac 3) ah)))) (bL (fB (ag fk 2 (aa (ac 1) (aa (f2 ixD (ac 2) (fC (.int 1))) ah)))))) (aC (fC (.bl f_))) (fun ρ=>a_ (.nx ρ))) (aD (aX (bL (fB (ag ce 2 (aa (f2 ixD (ac 2) (fC (.int 2))) (aa (f2 ixD (ac 1) (fC (.int 4))) ah))))) (aC (fC (.bl f_))) (fun ρ=>a_ (.nx ρ))) (aD (aX (fG (fB (f2 ixD (ac 1) (fC (.int 6)))) (bL (fB (f2 ixD (ac 2) (fC (.int 0)))))) (aC (fC (.bl f_))) (fun ρ=>a_ (.nx ρ))) (aC (vOr (f2 eqX (f2 ixD (ac 1) (fC (.int 7))) (fC (.str "any"))) (ag az 2 (aa (ac 0) (aa (ac 2) ah))))))))
def eU:List Dv→Option (Rs Dv):=aY 4 qV
def T11:bE:=("goes",6,["table","note","ask","now"],eU) :: T10
theorem wK (A:Af K "goes" (top 72) f) (t:HA P w K mg base T10):HA P w K mg base T11 :=
 aw (aE XI Gn ["table","note","ask","now"] ["table","note","ask","now"] qV A (by walk_at "d") (by delta qV; walk_at "b")) t
def eV:FnS:=(aD (aX (bL (fB (f1 (dh cL) (ac 0)))) (aC (fC (.bl f_))) (fun ρ=>a_ (.nx ρ))) (aD (aX (bOr (fB (f2 ltX (fB1 dg (aa (ac 0) ah)) (ac 2))) (fB (f2 gtD (fB1 dg (aa (ac 0) ah)) (ac 3)))) (aC (fC (.bl f_))) (fun ρ=>a_ (.nx ρ))) (aC (fB1 kc (aa (aN [("signs",1)] (cF (ac 0)) ck (f2 inD (ac 0) (ac 1))) ah)))))
def cH:List Dv→Option (Rs Dv):=aY 4 eV
def T12:bE:=("is_text_of",1,["thing","signs","least","most"],cH) :: T11
theorem j4 (A:Af K "is_text_of" (top 10) f) (t:HA P w K mg base T11):HA P w K mg base T12 :=
 aw (aE XI Gn ["thing","signs","least","most"] ["thing","signs","least","most"] eV A (by walk_at "d") (by delta eV; walk_at "b")) t
def gR:FnS:=(aD (aX (bL (fB (ag cH 4 (aa (ac 0) (aa (fC (.str "abcdefghijklmnopqrstuvwxyz0123456789-")) (aa (fC (.int 1)) (aa (fC (.int 8)) ah))))))) (aC (fC (.bl f_))) (fun ρ=>a_ (.nx ρ))) (aC (dt (iy (fM (lG G5) (ac 0) (aa (fC (.str "-")) ah))) (iy (fM (lG Ij) (ac 0) (aa (fC (.str "-")) ah))))))
def jz:List Dv→Option (Rs Dv):=aY 1 gR
def T13:bE:=("is_label",2,["thing"],jz) :: T12
theorem l8 (A:Af K "is_label" (top 19) f) (t:HA P w K mg base T12):HA P w K mg base T13 :=
 aw (aE XI Gn ["thing"] ["thing"] gR A (by walk_at "d") (by delta gR; walk_at "b")) t
def iP:FnS:=(aD (aX (bL (fB (f1 (dh cL) (ac 0)))) (aC (fC (.bl f_))) (fun ρ=>a_ (.nx ρ))) (aD (br 1 (fM (jk) (ac 0) (aa (fC (.str ".")) ah))) (aD (aX (bOr (fB (f2 gtD (fB1 dg (aa (ac 1) ah)) (fC (.int 5)))) (bL (fB (fB1 kc (aa (aN [] (cF (ac 1)) ck (ag jz 1 (aa (ac 0) ah))) ah))))) (aC (fC (.bl f_))) (fun ρ=>a_ (.nx ρ))) (aC (iy (ag cH 4 (aa (f2 ixD (ac 1) (f1 pK (fC (.int 1)))) (aa (fC (.str "0123456789")) (aa (fC (.int 1)) (aa (fC (.int 8)) ah))))))))))
def ba:List Dv→Option (Rs Dv):=aY 2 iP
def T14:bE:=("is_name",3,["thing"],ba) :: T13
theorem oB (A:Af K "is_name" (top 20) f) (t:HA P w K mg base T13):HA P w K mg base T14 :=
 aw (aE XI Gn ["thing","parts"] ["thing"] iP A (by walk_at "d") (by delta iP; walk_at "b")) t
def iQ:FnS:=(aC (dt (ag cH 4 (aa (ac 0) (aa (fC (.str "abcdefghijklmnopqrstuvwxyz0123456789-_./")) (aa (fC (.int 1)) (aa (fC (.int 20)) ah))))) (fM (lG G5) (ac 0) (aa (fC (.str "/")) ah))))
def cr:List Dv→Option (Rs Dv):=aY 1 iQ
def T15:bE:=("is_path",2,["thing"],cr) :: T14
theorem oD (A:Af K "is_path" (top 33) f) (t:HA P w K mg base T14):HA P w K mg base T15 :=
 aw (aE XI Gn ["thing"] ["thing"] iQ A (by walk_at "d") (by delta iQ; walk_at "b")) t
def cP:FnS:=(aC (dt (f1 (dh cx) (ac 0)) (f2 eqX (fB1 dg (aa (ac 0) ah)) (ac 1))))
def bw:List Dv→Option (Rs Dv):=aY 2 cP
def T16:bE:=("is_tuple_of",1,["thing","parts"],bw) :: T15
theorem i5 (A:Af K "is_tuple_of" (top 12) f) (t:HA P w K mg base T15):HA P w K mg base T16 :=
 aw (aE XI Gn ["thing","parts"] ["thing","parts"] cP A (by walk_at "d") (by delta cP; walk_at "b")) t
def fm:FnS:=(aD (aX (bL (fB (ag bw 2 (aa (ac 0) (aa (fC (.int 4)) ah))))) (aC (fC (.bl f_))) (fun ρ=>a_ (.nx ρ))) (aC (fB1 kc (aa (bW (aa (f1 (dh bh) (f2 ixD (ac 0) (fC (.int 0)))) (aa (ag ba 1 (aa (f2 ixD (ac 0) (fC (.int 1))) ah)) (aa (ag cr 1 (aa (f2 ixD (ac 0) (fC (.int 2))) ah)) (aa (vOr (f2 isN (f2 ixD (ac 0) (fC (.int 3))) (fC .non)) (ag ba 1 (aa (f2 ixD (ac 0) (fC (.int 3))) ah))) ah))))) ah))))
def cQ:List Dv→Option (Rs Dv):=aY 1 fm
def T17:bE:=("is_ask",4,["thing"],cQ) :: T16
theorem qW (A:Af K "is_ask" (top 45) f) (t:HA P w K mg base T16):HA P w K mg base T17 :=
 aw (aE XI Gn ["thing"] ["thing"] fm A (by walk_at "d") (by delta fm; walk_at "b")) t
def c0:FnS:=(aX (bL (fB (ag cQ 1 (aa (ac 0) ah)))) (aS 3 (fC (.str "this is no ask"))) (fun ρ=>a_ (.nx ρ)))
def aQ:List Dv→Option (Rs Dv):=gK 1 c0
def TE1:bE:=("need_ask",5,["thing"],aQ) :: TE0
theorem mf (A:Af K "need_ask" (top 46) f) (t:HA P w K mg base T17) (te:HAE P w K mg base TE0):HAE P w K mg base TE1 :=
 gx (iJ XI Gn ["thing"] ["thing"] c0 A (by walk_at "d") (by delta c0; walk_at "b")) te
def tM:FnS:=(aC (ci (aa (f2 ixD (ac 0) (fC (.int 0))) (aa (f2 ixD (ac 0) (fC (.int 2))) (aa (f2 ixD (ac 0) (fC (.int 4))) ah)))))
def oE:List Dv→Option (Rs Dv):=aY 1 tM
def T18:bE:=("key",1,["note"],oE) :: T17
theorem AE (A:Af K "key" (top 69) f) (t:HA P w K mg base T17):HA P w K mg base T18 :=
 aw (aE XI Gn ["note"] ["note"] tM A (by walk_at "d") (by delta tM; walk_at "b")) t
def bF:FnS:=(aD (br 1 (bj 1 [] (cF (ac 0)) (gN 0) ck (ag oE 1 (aa (ac 0) ah)))) (aC (f2 eqX (fB1 iF (aa (ac 1) ah)) (fB1 dg (aa (ac 1) ah)))))
def bc:List Dv→Option (Rs Dv):=aY 2 bF
def T19:bE:=("has_no_key_twice",2,["notes"],bc) :: T18
theorem fU (A:Af K "has_no_key_twice" (top 77) f) (t:HA P w K mg base T18):HA P w K mg base T19 :=
 aw (aE XI Gn ["notes","keys"] ["notes"] bF A (by walk_at "d") (by delta bF; walk_at "b")) t
def eW:FnS:=(aC (fB1 kc (aa (aN [("notes",0)] (fun ρ=>bnd ((aa (fC (.int 1)) (aa (fB1 dg (aa (ac 0) ah)) ah)) ρ) rM) ck (f2 leX (f2 ixD (f2 ixD (ac 1) (f2 vw (ac 0) (fC (.int 1)))) (fC (.int 8))) (f2 ixD (f2 ixD (ac 1) (ac 0)) (fC (.int 8))))) ah)))
def de:List Dv→Option (Rs Dv):=aY 1 eW
def T20:bE:=("is_by_made",1,["notes"],de) :: T19
theorem j5 (A:Af K "is_by_made" (top 76) f) (t:HA P w K mg base T19):HA P w K mg base T20 :=
 aw (aE XI Gn ["notes"] ["notes"] eW A (by walk_at "d") (by delta eW; walk_at "b")) t
def bn:FnS:=(aD (aX (bOr (bL (fB (f1 (dh cM) (ac 0)))) (fB (f1 (dh bh) (ac 0)))) (aC (fC (.bl f_))) (fun ρ=>a_ (.nx ρ))) (aC (dt (f2 leX (ac 1) (ac 0)) (f2 leX (ac 0) (ac 2)))))
def bp:List Dv→Option (Rs Dv):=aY 3 bn
def T21:bE:=("is_whole_number",1,["thing","least","most"],bp) :: T20
theorem gz (A:Af K "is_whole_number" (top 11) f) (t:HA P w K mg base T20):HA P w K mg base T21 :=
 aw (aE XI Gn ["thing","least","most"] ["thing","least","most"] bn A (by walk_at "d") (by delta bn; walk_at "b")) t
def dO:FnS:=(aC (ag bp 3 (aa (ac 0) (aa (fC (.int 0)) (aa (fC (.int 9999)) ah)))))
def aV:List Dv→Option (Rs Dv):=aY 1 dO
def T22:bE:=("is_moment",2,["thing"],aV) :: T21
theorem k9 (A:Af K "is_moment" (top 42) f) (t:HA P w K mg base T21):HA P w K mg base T22 :=
 aw (aE XI Gn ["thing"] ["thing"] dO A (by walk_at "d") (by delta dO; walk_at "b")) t
def aW:FnS:=(aC (vOr (f2 isN (ac 0) (fC .non)) (ag aV 1 (aa (ac 0) ah))))
def aJ:List Dv→Option (Rs Dv):=aY 1 aW
def T23:bE:=("is_moment_or_none",3,["thing"],aJ) :: T22
theorem fE (A:Af K "is_moment_or_none" (top 43) f) (t:HA P w K mg base T22):HA P w K mg base T23 :=
 aw (aE XI Gn ["thing"] ["thing"] aW A (by walk_at "d") (by delta aW; walk_at "b")) t
def dq:FnS:=(aC (ag cH 4 (aa (ac 0) (aa (fC (.str "abcdefghijklmnopqrstuvwxyzABCDEFGHIJKLMNOPQRSTUVWXYZ0123456789-_")) (aa (fC (.int 1)) (aa (fC (.int 10)) ah))))))
def bT:List Dv→Option (Rs Dv):=aY 1 dq
def T24:bE:=("is_note_name",2,["thing"],bT) :: T23
theorem iR (A:Af K "is_note_name" (top 53) f) (t:HA P w K mg base T23):HA P w K mg base T24 :=
 aw (aE XI Gn ["thing"] ["thing"] dq A (by walk_at "d") (by delta dq; walk_at "b")) t
def gS:FnS:=(aC (vOr (f2 eqX (ac 0) (fC (.str "any"))) (f2 eqX (ac 0) (fC (.str "near")))))
def gT:List Dv→Option (Rs Dv):=aY 1 gS
def T25:bE:=("is_reach",1,["thing"],gT) :: T24
theorem mh (A:Af K "is_reach" (top 55) f) (t:HA P w K mg base T24):HA P w K mg base T25 :=
 aw (aE XI Gn ["thing"] ["thing"] gS A (by walk_at "d") (by delta gS; walk_at "b")) t
def gU:FnS:=(aD (aX (bOr (bL (fB (f1 (dh cL) (ac 0)))) (fB (f2 gtD (fB1 dg (aa (ac 0) ah)) (fC (.int 12))))) (aC (fC (.bl f_))) (fun ρ=>a_ (.nx ρ))) (aC (fB1 kc (aa (aN [] (cF (ac 0)) ck (dt (f2 leX (fC (.str "!")) (ac 0)) (dt (f2 leX (ac 0) (fC (.str "~"))) (f2 mR (ac 0) (fC (.str ";,=")))))) ah))))
def dF:List Dv→Option (Rs Dv):=aY 1 gU
def T26:bE:=("is_worth",1,["thing"],dF) :: T25
theorem mi (A:Af K "is_worth" (top 54) f) (t:HA P w K mg base T25):HA P w K mg base T26 :=
 aw (aE XI Gn ["thing"] ["thing"] gU A (by walk_at "d") (by delta gU; walk_at "b")) t
def gA:FnS:=(aD (aX (bL (fB (ag bw 2 (aa (ac 0) (aa (fC (.int 10)) ah))))) (aC (fC (.bl f_))) (fun ρ=>a_ (.nx ρ))) (aD (aX (bOr (bL (fB (ag aV 1 (aa (f2 ixD (ac 0) (fC (.int 8))) ah)))) (bL (fB (ag aV 1 (aa (f2 ixD (ac 0) (fC (.int 9))) ah))))) (aC (fC (.bl f_))) (fun ρ=>a_ (.nx ρ))) (aC (fB1 kc (aa (bW (aa (ag bT 1 (aa (f2 ixD (ac 0) (fC (.int 0))) ah)) (aa (ag dF 1 (aa (f2 ixD (ac 0) (fC (.int 1))) ah)) (aa (ag ba 1 (aa (f2 ixD (ac 0) (fC (.int 2))) ah)) (aa (f1 (dh bh) (f2 ixD (ac 0) (fC (.int 3)))) (aa (ag cr 1 (aa (f2 ixD (ac 0) (fC (.int 4))) ah)) (aa (ag aJ 1 (aa (f2 ixD (ac 0) (fC (.int 5))) ah)) (aa (f1 (dh bh) (f2 ixD (ac 0) (fC (.int 6)))) (aa (ag gT 1 (aa (f2 ixD (ac 0) (fC (.int 7))) ah)) (aa (f2 leX (f2 ixD (ac 0) (fC (.int 8))) (f2 ixD (ac 0) (fC (.int 9)))) ah)))))))))) ah)))))
def da:List Dv→Option (Rs Dv):=aY 1 gA
def T27:bE:=("is_note",4,["thing"],da) :: T26
theorem oF (A:Af K "is_note" (top 68) f) (t:HA P w K mg base T26):HA P w K mg base T27 :=
 aw (aE XI Gn ["thing"] ["thing"] gA A (by walk_at "d") (by delta gA; walk_at "b")) t
def fq:FnS:=(aD (aX (bOr (bL (fB (f1 (dh cx) (ac 0)))) (fB (f2 gtD (fB1 dg (aa (ac 0) ah)) (fC (.int 20))))) (aC (fC (.bl f_))) (fun ρ=>a_ (.nx ρ))) (aD (aX (bL (fB (fB1 kc (aa (aN [] (cF (ac 0)) ck (ag da 1 (aa (ac 0) ah))) ah)))) (aC (fC (.bl f_))) (fun ρ=>a_ (.nx ρ))) (aC (dt (ag de 1 (aa (ac 0) ah)) (ag bc 1 (aa (ac 0) ah))))))
def dP:List Dv→Option (Rs Dv):=aY 1 fq
def T28:bE:=("is_jar",5,["thing"],dP) :: T27
theorem qX (A:Af K "is_jar" (top 75) f) (t:HA P w K mg base T27):HA P w K mg base T28 :=
 aw (aE XI Gn ["thing"] ["thing"] fq A (by walk_at "d") (by delta fq; walk_at "b")) t
def db:FnS:=(aX (bL (fB (ag dP 1 (aa (ac 0) ah)))) (aS 5 (fC (.str "this is no jar"))) (fun ρ=>a_ (.nx ρ)))
def aH:List Dv→Option (Rs Dv):=gK 1 db
def TE2:bE:=("need_jar",6,["thing"],aH) :: TE1
theorem mj (A:Af K "need_jar" (top 78) f) (t:HA P w K mg base T28) (te:HAE P w K mg base TE1):HAE P w K mg base TE2 :=
 gx (iJ XI Gn ["thing"] ["thing"] db A (by walk_at "d") (by delta db; walk_at "b")) te
def bU:FnS:=(aX (bL (fB (ag aV 1 (aa (ac 0) ah)))) (aS 6 (fC (.str "this is no moment"))) (fun ρ=>a_ (.nx ρ)))
def aG:List Dv→Option (Rs Dv):=gK 1 bU
def TE3:bE:=("need_moment",3,["thing"],aG) :: TE2
theorem i7 (A:Af K "need_moment" (top 44) f) (t:HA P w K mg base T28) (te:HAE P w K mg base TE2):HAE P w K mg base TE3 :=
 gx (iJ XI Gn ["thing"] ["thing"] bU A (by walk_at "d") (by delta bU; walk_at "b")) te
def iS:FnS:=(aD (aX (bL (fB (f1 (dh cL) (ac 0)))) (aC (fC (.bl f_))) (fun ρ=>a_ (.nx ρ))) (aD (aX (fB (fM (lG G5) (ac 0) (aa (fC (.str "*.")) ah))) (aC (ag ba 1 (aa (uv (ac 0) (eG (fC (.int 2))) fA) ah))) (fun ρ=>a_ (.nx ρ))) (aD (aX (fB (fM (lG G5) (ac 0) (aa (fC (.str "!")) ah))) (aC (dt (f2 inD (fC (.str ".")) (ac 0)) (ag ba 1 (aa (uv (ac 0) (eG (fC (.int 1))) fA) ah)))) (fun ρ=>a_ (.nx ρ))) (aC (ag ba 1 (aa (ac 0) ah))))))
def la:List Dv→Option (Rs Dv):=aY 1 iS
def T29:bE:=("is_rule",4,["thing"],la) :: T28
theorem oG (A:Af K "is_rule" (top 21) f) (t:HA P w K mg base T28):HA P w K mg base T29 :=
 aw (aE XI Gn ["thing"] ["thing"] iS A (by walk_at "d") (by delta iS; walk_at "b")) t
def fu:FnS:=(aD (aX (bOr (bL (fB (f1 (dh cx) (ac 0)))) (fB (f2 gtD (fB1 dg (aa (ac 0) ah)) (fC (.int 8))))) (aC (fC (.bl f_))) (fun ρ=>a_ (.nx ρ))) (aD (aX (bL (fB (fB1 kc (aa (aN [] (cF (ac 0)) ck (ag la 1 (aa (ac 0) ah))) ah)))) (aC (fC (.bl f_))) (fun ρ=>a_ (.nx ρ))) (aC (fB1 kc (aa (aN [("thing",0)] (fun ρ=>bnd ((aa (fC (.int 1)) (aa (fB1 dg (aa (ac 0) ah)) ah)) ρ) rM) ck (f2 ltX (f2 ixD (ac 1) (f2 vw (ac 0) (fC (.int 1)))) (f2 ixD (ac 1) (ac 0)))) ah)))))
def bN:List Dv→Option (Rs Dv):=aY 1 fu
def T30:bE:=("is_table",5,["thing"],bN) :: T29
theorem ml (A:Af K "is_table" (top 22) f) (t:HA P w K mg base T29):HA P w K mg base T30 :=
 aw (aE XI Gn ["thing"] ["thing"] fu A (by walk_at "d") (by delta fu; walk_at "b")) t
def cu:FnS:=(aX (bL (fB (ag bN 1 (aa (ac 0) ah)))) (aS 1 (fC (.str "this is no table"))) (fun ρ=>a_ (.nx ρ)))
def ay:List Dv→Option (Rs Dv):=gK 1 cu
def TE4:bE:=("need_table",6,["thing"],ay) :: TE3
theorem j6 (A:Af K "need_table" (top 23) f) (t:HA P w K mg base T30) (te:HAE P w K mg base TE3):HAE P w K mg base TE4 :=
 gx (iJ XI Gn ["thing"] ["thing"] cu A (by walk_at "d") (by delta cu; walk_at "b")) te
def ax:FnS:=(aD (bq (aB ay 1 (aa (ac 0) ah))) (aD (bq (aB aH 1 (aa (ac 1) ah))) (aD (bq (aB aQ 1 (aa (ac 2) ah))) (bq (aB aG 1 (aa (ac 3) ah))))))
def aj:List Dv→Option (Rs Dv):=gK 4 ax
def TE5:bE:=("need_sending",7,["table","jar","ask","now"],aj) :: TE4
theorem iT (A:Af K "need_sending" (top 79) f) (te:HAE P w K mg base TE4):HAE P w K mg base TE5 :=
 gx (iJ XI Gn ["table","jar","ask","now"] ["table","jar","ask","now"] ax A (by walk_at "d") (by delta ax; walk_at "b")) te
def dR:FnS:=(aD (bq (aB aj 4 (aa (ac 0) (aa (ac 1) (aa (ac 2) (aa (ac 3) ah)))))) (aD (br 4 (bj 1 [("table",0),("ask",2),("now",3)] (cF (ac 1)) (gN 0) (a_ (fB (ag eU 4 (aa (ac 1) (aa (ac 0) (aa (ac 2) (aa (ac 3) ah))))))) (ac 0))) (aC (fB1 (ou (xL 1 (f1 pK (fB1 dg (aa (f2 ixD (ac 0) (fC (.int 4))) ah))))) (aa (ac 4) ah)))))
def bC:List Dv→Option (Rs Dv):=gK 5 dR
def TU1:bE:=("sent",8,["table","jar","ask","now"],bC) :: TU0
theorem wL (A:Af K "sent" (top 80) f) (t:HA P w K mg base T30) (te:HAE P w K mg base TE5) (tu:ow P w K mg base Pt qL TU0) (ct:ctB K f Pt=e_):ow P w K mg base Pt qL TU1 :=
 iL (jY (CT:=fun cdv=>k6 K cdv Pt) XI Gn ["table","jar","ask","now","going"] ["table","jar","ask","now"] dR A (by walk_at "d") (fun _ Fn=>Dj ct Fn) (by delta dR; walk_at "b")) tu
def bd:FnS:=(aC (fM (gm) (fC (.str "; ")) (aa (aN [] (cF (aB bC 4 (aa (ac 0) (aa (ac 1) (aa (ac 2) (aa (ac 3) ah)))))) ck (f2 cB (f2 cB (f2 ixD (ac 0) (fC (.int 0))) (fC (.str "="))) (f2 ixD (ac 0) (fC (.int 1))))) ah)))
def bI:List Dv→Option (Rs Dv):=gK 4 bd
def TU2:bE:=("sent_text",9,["table","jar","ask","now"],bI) :: TU1
theorem lb (A:Af K "sent_text" (top 81) f) (tu:ow P w K mg base Pt qL TU1):ow P w K mg base Pt qL TU2 :=
 iL (jY (CT:=fun _=>True) XI Gn ["table","jar","ask","now"] ["table","jar","ask","now"] bd A (by walk_at "d") (fun _ _=>trivial) (by delta bd; walk_at "b")) tu
def gB:FnS:=(aC (f2 bM (jR (ac 0) fA (eG (fC (.int 9)))) (ci (aa (fB1 xI (aa (f2 ixD (ac 0) (fC (.int 9))) (aa (ac 1) ah))) ah))))
def eX:List Dv→Option (Rs Dv):=aY 2 gB
def T31:bE:=("used_at",1,["note","now"],eX) :: T30
theorem oH (A:Af K "used_at" (top 83) f) (t:HA P w K mg base T30):HA P w K mg base T31 :=
 aw (aE XI Gn ["note","now"] ["note","now"] gB A (by walk_at "d") (by delta gB; walk_at "b")) t
def dU:FnS:=(aD (bq (aB aj 4 (aa (ac 0) (aa (ac 1) (aa (ac 2) (aa (ac 3) ah)))))) (aC (fB1 eK (aa (aN [("table",0),("ask",2),("now",3)] (cF (ac 1)) ck (fIf (fB (ag eU 4 (aa (ac 1) (aa (ac 0) (aa (ac 2) (aa (ac 3) ah)))))) (ag eX 2 (aa (ac 0) (aa (ac 3) ah))) (ac 0))) ah))))
def fV:List Dv→Option (Rs Dv):=gK 4 dU
def TU3:bE:=("used",8,["table","jar","ask","now"],fV) :: TU2
theorem wM (A:Af K "used" (top 82) f) (t:HA P w K mg base T31) (te:HAE P w K mg base TE5) (tu:ow P w K mg base Pt qL TU2):ow P w K mg base Pt qL TU3 :=
 iL (jY (CT:=fun _=>True) XI Gn ["table","jar","ask","now"] ["table","jar","ask","now"] dU A (by walk_at "d") (fun _ _=>trivial) (by delta dU; walk_at "b")) tu
def fW:FnS:=(uB 7 5 6 (gQ [bC,bI,fV] 4 (ac 0) (aa (ac 1) (aa (ac 2) (aa (ac 3) (aa (ac 4) ah))))) (ag bH 1 (aa (ac 5) ah)))
def ar:List Dv→Option (Rs Dv):=aY 6 fW
def TL1:bE:=("_law_told",10,["_law_way","_law_table_here","_law_jar_here","_law_ask_here","_law_now"],ar) :: TL0
theorem lc (A:Af K "_law_told" (top 102) f) (tm:HAM P w K mg base TM1) (tl:HAT P w K mg base Pt qL TL0) (tu:ow P w K mg base Pt qL TU3):HAT P w K mg base Pt qL TL1 :=
 jX (l4 (CT:=fun _=>True) XI Gn ["_law_way","_law_table_here","_law_jar_here","_law_ask_here","_law_now","_law_e"] ["_law_way","_law_table_here","_law_jar_here","_law_ask_here","_law_now"] fW A (by walk_at "d") (fun _ _=>trivial) (by delta fW; walk_at "b")) tl
def bx:FnS:=(aD (br 1 (bW (aa (ci (aa (fC (.str "n")) (aa (fC (.str "/")) ah))) (aa (ci (aa (fC (.str "m")) (aa (fC (.str "/x")) ah))) (aa (ci (aa (fC (.str "k")) (aa (fC (.str "/x/y")) ah))) (aa (ci (aa (fC (.str "j")) (aa (fC (.str "/x")) ah))) ah)))))) (aD (br 2 (fB1 eK (aa (bj 2 [] (cF (ac 1)) (gP 0 1) ck (ci (aa (ac 0) (aa (fC (.str "1")) (aa (fC (.str "a.b")) (aa (fC (.bl f_)) (aa (ac 1) (aa (fC .non) (aa (fC (.bl f_)) (aa (fC (.str "any")) (aa (fC (.int 0)) (aa (fC (.int 0)) ah)))))))))))) ah))) (aD (br 3 (ci (aa (ci (aa (fC (.str "n")) (aa (fC (.str "1")) (aa (fC (.str "a.b")) (aa (fC (.bl f_)) (aa (fC (.str "/")) (aa (fC .non) (aa (fC (.bl f_)) (aa (fC (.str "any")) (aa (fC (.int 0)) (aa (fC (.int 7)) ah))))))))))) ah))) (aD (aX (fB (f2 neX (ag ar 5 (aa (fC (.int 2)) (aa (ac 0) (aa (ac 3) (aa (ci (aa (fC (.bl e_)) (aa (fC (.str "a.b")) (aa (fC (.str "/")) (aa (fC .non) ah))))) (aa (fC (.int 5)) ah)))))) (ac 3))) (aC (fC (.bl f_))) (fun ρ=>a_ (.nx ρ))) (aC (f2 eqX (ag ar 5 (aa (fC (.int 1)) (aa (ac 0) (aa (ac 2) (aa (ci (aa (fC (.bl e_)) (aa (fC (.str "a.b")) (aa (fC (.str "/x/y")) (aa (fC .non) ah))))) (aa (fC (.int 0)) ah)))))) (fC (.str "k=1; m=1; j=1; n=1"))))))))
def bz:List Dv→Option (Rs Dv):=aY 4 bx
def TL2:bE:=("_law_known_one",11,["_law_table_here"],bz) :: TL1
theorem gW (A:Af K "_law_known_one" (top 103) f) (tl:HAT P w K mg base Pt qL TL1):HAT P w K mg base Pt qL TL2 :=
 jX (l4 (CT:=fun _=>True) XI Gn ["_law_table_here","_law_rows","_law_known","_law_late"] ["_law_table_here"] bx A (by walk_at "d") (fun _ _=>trivial) (by delta bx; walk_at "b")) tl
def dc:FnS:=(aD (aX (fB (f2 Bt (ac 0) (bW ah))) (aC (f2 hW (fC (.int 7)) (ac 1))) (fun ρ=>a_ (.nx ρ))) (aC (f2 cB (f2 ixD (ac 0) (f2 gh (ac 1) (fB1 dg (aa (ac 0) ah)))) (f2 hW (fC (.int 6553)) (f2 gk (ac 1) (fB1 dg (aa (ac 0) ah)))))))
def bX:List Dv→Option (Rs Dv):=aY 2 dc
def T32:bE:=("_law_cell",1,["_law_script","_law_k"],bX) :: T31
theorem lf (A:Af K "_law_cell" (top 85) f) (t:HA P w K mg base T31):HA P w K mg base T32 :=
 aw (aE XI Gn ["_law_script","_law_k"] ["_law_script","_law_k"] dc A (by walk_at "d") (by delta dc; walk_at "b")) t
def cf:FnS:=(aD (br 3 (f2 gh (f2 cB (f2 hW (f2 gh (ag bX 2 (aa (ac 0) (aa (ac 1) ah))) (fC (.int 2147483563))) (fC (.int 69069))) (f2 hW (fC (.int 104723)) (f2 cB (ac 1) (fC (.int 1))))) (fC (.int 2147483563)))) (aD (br 3 (f2 gh (f2 cB (f2 hW (ac 3) (ac 3)) (f2 gk (ac 3) (fC (.int 3)))) (fC (.int 2147483399)))) (aC (f2 gh (f2 gk (f2 gh (f2 cB (f2 hW (ac 3) (ac 3)) (f2 gk (ac 3) (fC (.int 7)))) (fC (.int 2147483647))) (fC (.int 11))) (ac 2)))))
def ae:List Dv→Option (Rs Dv):=aY 4 cf
def T33:bE:=("_law_drawn",2,["_law_script","_law_k","_law_many"],ae) :: T32
theorem j7 (A:Af K "_law_drawn" (top 86) f) (t:HA P w K mg base T32):HA P w K mg base T33 :=
 aw (aE XI Gn ["_law_script","_law_k","_law_many","_law_cell_here"] ["_law_script","_law_k","_law_many"] cf A (by walk_at "d") (by delta cf; walk_at "b")) t
def fX:FnS:=(aD (br 2 (bW (aa (fC (.str "a.b")) (aa (fC (.str "b")) (aa (fC (.str "x.a.b")) (aa (fC (.str "y.x.a.b")) (aa (fC (.str "c.uk")) (aa (fC (.str "uk")) (aa (fC (.str "d.c.uk")) (aa (fC (.str "e.d.c.uk")) ah)))))))))) (aD (br 2 (f2 cB (ac 2) (bW (aa (fC (.str "w.ck")) (aa (fC (.str "v.w.ck")) (aa (fC (.str "ck")) (aa (fC (.str "g-1.a.b")) (aa (fC (.str "7.b")) (aa (fC (.str "p.q")) ah))))))))) (aC (f2 ixD (ac 2) (ag ae 3 (aa (ac 0) (aa (ac 1) (aa (fB1 dg (aa (ac 2) ah)) ah))))))))
def aK:List Dv→Option (Rs Dv):=aY 3 fX
def T34:bE:=("_law_name",3,["_law_script","_law_at"],aK) :: T33
theorem lg (A:Af K "_law_name" (top 87) f) (t:HA P w K mg base T33):HA P w K mg base T34 :=
 aw (aE XI Gn ["_law_script","_law_at","_law_some"] ["_law_script","_law_at"] fX A (by walk_at "d") (by delta fX; walk_at "b")) t
def fY : FnS := (aD (br 2 (bW (aa (fC (.str "/")) (aa (fC (.str "/x")) (aa (fC (.str "/x/")) (aa (fC (.str "/x/y")) (aa (fC (.str "/xy")) (aa (fC (.str "/x/y/z.q")) (aa (fC (.str "//")) (aa (fC (.str "/-_.9")) (aa (fC (.str "/x/y/")) ah))))))))))) (aC (f2 ixD (ac 2) (ag ae 3 (aa (ac 0) (aa (ac 1) (aa (fB1 dg (aa (ac 2) ah)) ah)))))))
def bY:List Dv→Option (Rs Dv):=aY 3 fY
def T35:bE:=("_law_path",3,["_law_script","_law_at"],bY) :: T34
theorem lh (A:Af K "_law_path" (top 89) f) (t:HA P w K mg base T34):HA P w K mg base T35 :=
 aw (aE XI Gn ["_law_script","_law_at","_law_some"] ["_law_script","_law_at"] fY A (by walk_at "d") (by delta fY; walk_at "b")) t
def dG:FnS:=(aD (br 2 (f2 ixD (bW (aa (fC .non) (aa (ag aK 2 (aa (ac 0) (aa (f2 cB (ac 1) (fC (.int 3))) ah))) (aa (ag aK 2 (aa (ac 0) (aa (f2 cB (ac 1) (fC (.int 3))) ah))) ah)))) (ag ae 3 (aa (ac 0) (aa (f2 cB (ac 1) (fC (.int 2))) (aa (fC (.int 3)) ah)))))) (aC (ci (aa (f2 eqX (ag ae 3 (aa (ac 0) (aa (ac 1) (aa (fC (.int 2)) ah)))) (fC (.int 0))) (aa (ag aK 2 (aa (ac 0) (aa (f2 cB (ac 1) (fC (.int 1))) ah))) (aa (ag bY 2 (aa (ac 0) (aa (f2 cB (ac 1) (fC (.int 4))) ah))) (aa (ac 2) ah)))))))
def fw:List Dv→Option (Rs Dv):=aY 3 dG
def T36:bE:=("_law_ask",4,["_law_script","_law_at"],fw) :: T35
theorem mn (A:Af K "_law_ask" (top 90) f) (t:HA P w K mg base T35):HA P w K mg base T36 :=
 aw (aE XI Gn ["_law_script","_law_at","_law_origin"] ["_law_script","_law_at"] dG A (by walk_at "d") (by delta dG; walk_at "b")) t
def fZ:FnS:=(aD (br 1 (fM (jk) (ac 0) (aa (fC (.str ".")) ah))) (aC (aN [("_law_parts",1)] (fun ρ=>bnd ((aa (fB1 dg (aa (ac 1) ah)) ah) ρ) iz) ck (fM (gm) (fC (.str ".")) (aa (uv (ac 1) (eG (ac 0)) fA) ah)))))
def gc:List Dv→Option (Rs Dv):=aY 2 fZ
def T37:bE:=("_law_ends",1,["_law_name_here"],gc) :: T36
theorem ll (A:Af K "_law_ends" (top 91) f) (t:HA P w K mg base T36):HA P w K mg base T37 :=
 aw (aE XI Gn ["_law_name_here","_law_parts"] ["_law_name_here"] fZ A (by walk_at "d") (by delta fZ; walk_at "b")) t
def gd:FnS:=(aD (br 2 (ag gc 1 (aa (ac 1) ah))) (aD (br 3 (bj 1 [("_law_table_here",0)] (cF (ac 2)) (gN 0) (a_ (fB (f2 inD (f2 cB (fC (.str "!")) (ac 0)) (ac 1)))) (ac 0))) (aD (aX (fB (f2 neX (ac 3) (bW ah))) (aC (uv (f2 ixD (ac 3) (fC (.int 0))) (eG (f2 cB (fM Bz (f2 ixD (ac 3) (fC (.int 0))) (aa (fC (.str ".")) ah)) (fC (.int 1)))) fA)) (fun ρ=>a_ (.nx ρ))) (aD (br 4 (bj 1 [("_law_table_here",0)] (cF (ac 2)) (gN 0) (a_ (bOr (fB (f2 inD (ac 0) (ac 1))) (fG (fB (f2 inD (f2 cB (fC (.str "*")) (uv (ac 0) (eG (fM (Bs Txt.find) (ac 0) (aa (fC (.str ".")) ah))) fA)) (ac 1))) (fB (f2 inD (fC (.str ".")) (ac 0)))))) (ac 0))) (aC (f2 ixD (f2 cB (ac 4) (uv (ac 2) (eG (f1 pK (fC (.int 1)))) fA)) (fC (.int 0))))))))
def iU:List Dv→Option (Rs Dv):=aY 5 gd
def T38:bE:=("_law_open",2,["_law_table_here","_law_name_here"],iU) :: T37
theorem lm (A:Af K "_law_open" (top 92) f) (t:HA P w K mg base T37):HA P w K mg base T38 :=
 aw (aE XI Gn ["_law_table_here","_law_name_here","_law_ends_here","_law_called","_law_met"] ["_law_table_here","_law_name_here"] gd A (by walk_at "d") (by delta gd; walk_at "b")) t
def gX:FnS:=(aD (br 2 (ag gc 1 (aa (ac 1) ah))) (aD (br 3 (bj 1 [("_law_table_here",0),("_law_name_here",1)] (cF (ac 2)) (gN 0) (a_ (fB (f2 gtD (fB1 dg (aa (ac 0) ah)) (fB1 dg (aa (ag iU 2 (aa (ac 1) (aa (ac 2) ah))) ah))))) (ac 0))) (aC (fIf (fB (f2 neX (ac 3) (bW ah))) (f2 ixD (ac 3) (f1 pK (fC (.int 1)))) (fC .non)))))
def cU:List Dv→Option (Rs Dv):=aY 4 gX
def T39:bE:=("_law_own",3,["_law_table_here","_law_name_here"],cU) :: T38
theorem mq (A:Af K "_law_own" (top 93) f) (t:HA P w K mg base T38):HA P w K mg base T39 :=
 aw (aE XI Gn ["_law_table_here","_law_name_here","_law_ends_here","_law_longer"] ["_law_table_here","_law_name_here"] gX A (by walk_at "d") (by delta gX; walk_at "b")) t
def bJ:FnS:=(aD (aX (bOr (fB (f2 isN (f2 ixD (ac 1) (fC (.int 3))) (fC .non))) (fB (f2 eqX (f2 ixD (ac 1) (fC (.int 3))) (f2 ixD (ac 1) (fC (.int 1)))))) (aC (fC (.bl e_))) (fun ρ=>a_ (.nx ρ))) (aC (dt (f2 gI (ag cU 2 (aa (ac 0) (aa (f2 ixD (ac 1) (fC (.int 1))) ah))) (fC .non)) (f2 eqX (ag cU 2 (aa (ac 0) (aa (f2 ixD (ac 1) (fC (.int 1))) ah))) (ag cU 2 (aa (ac 0) (aa (f2 ixD (ac 1) (fC (.int 3))) ah)))))))
def aR:List Dv→Option (Rs Dv):=aY 2 bJ
def T40:bE:=("_law_near",4,["_law_table_here","_law_ask_here"],aR) :: T39
theorem ln (A:Af K "_law_near" (top 96) f) (t:HA P w K mg base T39):HA P w K mg base T40 :=
 aw (aE XI Gn ["_law_table_here","_law_ask_here"] ["_law_table_here","_law_ask_here"] bJ A (by walk_at "d") (by delta bJ; walk_at "b")) t
def eY:FnS:=(aC (vOr (f2 eqX (ac 0) (ac 1)) (dt (fM (lG G5) (ac 0) (aa (ac 1) ah)) (vOr (fM (lG Ij) (ac 1) (aa (fC (.str "/")) ah)) (fM (lG G5) (ac 0) (aa (f2 cB (ac 1) (fC (.str "/"))) ah))))))
def bK:List Dv→Option (Rs Dv):=aY 2 eY
def T41:bE:=("_law_under",1,["_law_path_here","_law_top"],bK) :: T40
theorem j8 (A:Af K "_law_under" (top 95) f) (t:HA P w K mg base T40):HA P w K mg base T41 :=
 aw (aE XI Gn ["_law_path_here","_law_top"] ["_law_path_here","_law_top"] eY A (by walk_at "d") (by delta eY; walk_at "b")) t
def dZ:FnS:=(aC (vOr (f2 eqX (ac 0) (ac 1)) (fM (lG Ij) (ac 0) (aa (f2 cB (fC (.str ".")) (ac 1)) ah))))
def bO:List Dv→Option (Rs Dv):=aY 2 dZ
def T42:bE:=("_law_within",1,["_law_one","_law_other"],bO) :: T41
theorem i8 (A:Af K "_law_within" (top 94) f) (t:HA P w K mg base T41):HA P w K mg base T42 :=
 aw (aE XI Gn ["_law_one","_law_other"] ["_law_one","_law_other"] dZ A (by walk_at "d") (by delta dZ; walk_at "b")) t
def gf:FnS:=(aD (aX (bOr (fG (fB (f2 gI (f2 ixD (ac 1) (fC (.int 5))) (fC .non))) (fB (f2 leX (f2 ixD (ac 1) (fC (.int 5))) (ac 3)))) (fG (fB (f2 ixD (ac 1) (fC (.int 6)))) (bL (fB (f2 ixD (ac 2) (fC (.int 0))))))) (aC (fC (.bl f_))) (fun ρ=>a_ (.nx ρ))) (aD (aX (fG (fB (f2 neX (f2 ixD (ac 2) (fC (.int 1))) (f2 ixD (ac 1) (fC (.int 2))))) (bOr (fB (f2 ixD (ac 1) (fC (.int 3)))) (bL (fB (ag bO 2 (aa (f2 ixD (ac 2) (fC (.int 1))) (aa (f2 ixD (ac 1) (fC (.int 2))) ah))))))) (aC (fC (.bl f_))) (fun ρ=>a_ (.nx ρ))) (aC (dt (ag bK 2 (aa (f2 ixD (ac 2) (fC (.int 2))) (aa (f2 ixD (ac 1) (fC (.int 4))) ah))) (vOr (f2 eqX (f2 ixD (ac 1) (fC (.int 7))) (fC (.str "any"))) (ag aR 2 (aa (ac 0) (aa (ac 2) ah))))))))
def cD:List Dv→Option (Rs Dv):=aY 4 gf
def T43:bE:=("_law_goes",5,["_law_table_here","_law_note","_law_ask_here","_law_now"],cD) :: T42
theorem lq (A:Af K "_law_goes" (top 99) f) (t:HA P w K mg base T42):HA P w K mg base T43 :=
 aw (aE XI Gn ["_law_table_here","_law_note","_law_ask_here","_law_now"] ["_law_table_here","_law_note","_law_ask_here","_law_now"] gf A (by walk_at "d") (by delta gf; walk_at "b")) t
def aU:iZ:=(fQ (gs 6 (f2 bM (f2 bM (ac 1) (fC (.int 1))) (f2 hW (fC (.int 14)) (ac 5)))) (fQ (gs 4 (f2 bM (ac 4) (ag ae 3 (aa (ac 0) (aa (ac 6) (aa (fC (.int 4)) ah)))))) (fQ (gs 7 (f2 ixD (bW (aa (fC (.str "n")) (aa (fC (.str "m-1")) (aa (fC (.str "safe-a")) (aa (fC (.str "N_2")) ah))))) (ag ae 3 (aa (ac 0) (aa (f2 bM (ac 6) (fC (.int 1))) (aa (fC (.int 4)) ah)))))) (fQ (gs 8 (f2 ixD (bW (aa (fC (.str "5")) (aa (fC (.str "")) (aa (fC (.str "a!b~")) ah)))) (ag ae 3 (aa (ac 0) (aa (f2 bM (ac 6) (fC (.int 2))) (aa (fC (.int 3)) ah)))))) (fQ (gs 9 (f2 ixD (bW (aa (fC .non) (aa (ag ae 3 (aa (ac 0) (aa (f2 bM (ac 6) (fC (.int 7))) (aa (fC (.int 60)) ah)))) ah))) (ag ae 3 (aa (ac 0) (aa (f2 bM (ac 6) (fC (.int 6))) (aa (fC (.int 2)) ah)))))) (fQ (gs 10 (f2 eqX (ag ae 3 (aa (ac 0) (aa (f2 bM (ac 6) (fC (.int 4))) (aa (fC (.int 2)) ah)))) (fC (.int 0)))) (fQ (gs 11 (ci (aa (ac 7) (aa (ac 8) (aa (ag aK 2 (aa (ac 0) (aa (f2 bM (ac 6) (fC (.int 3))) ah))) (aa (ac 10) (aa (ag bY 2 (aa (ac 0) (aa (f2 bM (ac 6) (fC (.int 5))) ah))) ah))))))) (fQ (gs 12 (f2 ixD (bW (aa (fC (.str "any")) (aa (fC (.str "any")) (aa (fC (.str "near")) ah)))) (ag ae 3 (aa (ac 0) (aa (f2 bM (ac 6) (fC (.int 9))) (aa (fC (.int 3)) ah)))))) (fQ (gs 13 (f2 eqX (ag ae 3 (aa (ac 0) (aa (f2 bM (ac 6) (fC (.int 8))) (aa (fC (.int 2)) ah)))) (fC (.int 0)))) (fQ (gs 14 (f2 bM (ac 4) (ag ae 3 (aa (ac 0) (aa (f2 bM (ac 6) (fC (.int 10))) (aa (fC (.int 5)) ah)))))) (fQ (gs 15 (f2 bM (ac 11) (ci (aa (ac 9) (aa (ac 13) (aa (ac 12) (aa (ac 4) (aa (ac 14) ah)))))))) (vY 3 (fB (f2 eqX (aN [("_law_note",15)] (cF (ac 3)) (a_ (fB (f2 eqX (ci (aa (f2 ixD (ac 0) (fC (.int 0))) (aa (f2 ixD (ac 0) (fC (.int 2))) (aa (f2 ixD (ac 0) (fC (.int 4))) ah)))) (ci (aa (f2 ixD (ac 1) (fC (.int 0))) (aa (f2 ixD (ac 1) (fC (.int 2))) (aa (f2 ixD (ac 1) (fC (.int 4))) ah))))))) (ac 0)) (bW ah))) (xG (ac 15)) BA))))))))))))
def gY:FnS:=(xH 3 ah (fQ (gs 4 (fC (.int 0))) (fQ (v6 5 [5,6,7,8,9,10,11,12,13,14,15] (fun ρ=>bnd ((aa (ag ae 3 (aa (ac 0) (aa (ac 1) (aa (f2 bM (ac 2) (fC (.int 1))) ah)))) ah) ρ) iz) aU) (xF 3 (fB1 eK (aa (ac 3) ah))))))
def fz:List Dv→Option (Rs Dv):=aY 16 gY
def T44:bE:=("_law_jar",4,["_law_script","_law_at","_law_many"],fz) :: T43
theorem mr (A:Af K "_law_jar" (top 100) f) (t:HA P w K mg base T43):HA P w K mg base T44 :=
 aw (aE XI Gn ["_law_script","_law_at","_law_many","_law_found","_law_now","_law_k","_law_here","_law_name_here","_law_worth","_law_ends_here","_law_exact","_law_head","_law_reach","_law_safe","_law_late","_law_note"] ["_law_script","_law_at","_law_many"] gY A (by walk_at "d") (by delta gY aU; walk_at "b")) t
def eZ:FnS:=(aD (br 2 (bW (aa (fC (.str "!w.ck")) (aa (fC (.str "*.ck")) (aa (fC (.str "*.uk")) (aa (fC (.str "a.b")) (aa (fC (.str "b")) (aa (fC (.str "c.uk")) (aa (fC (.str "q")) (aa (fC (.str "uk")) ah)))))))))) (aC (fB1 eK (aa (bj 2 [("_law_script",0),("_law_at",1)] (fun ρ=>bnd ((aa (ac 2) ah) ρ) sB) (gP 0 1) (a_ (fB (f2 eqX (ag ae 3 (aa (ac 2) (aa (f2 cB (ac 3) (ac 0)) (aa (fC (.int 2)) ah)))) (fC (.int 0))))) (ac 1)) ah))))
def bt:List Dv→Option (Rs Dv):=aY 3 eZ
def T45:bE:=("_law_table",3,["_law_script","_law_at"],bt) :: T44
theorem j9 (A:Af K "_law_table" (top 88) f) (t:HA P w K mg base T44):HA P w K mg base T45 :=
 aw (aE XI Gn ["_law_script","_law_at","_law_some"] ["_law_script","_law_at"] eZ A (by walk_at "d") (by delta eZ; walk_at "b")) t
def aM:FnS:=(br 8 (f2 bM (ac 8) (aN [("_law_size",9)] (cF (ac 7)) (a_ (fB (f2 eqX (fB1 dg (aa (f2 ixD (ac 0) (fC (.int 4))) ah)) (ac 1)))) (ac 0))))
def cw:FnS:=(aD (br 1 (ag bt 2 (aa (ac 0) (aa (fC (.int 0)) ah)))) (aD (br 2 (ag fz 3 (aa (ac 0) (aa (fC (.int 10)) (aa (fC (.int 6)) ah))))) (aD (br 3 (ag fw 2 (aa (ac 0) (aa (fC (.int 110)) ah)))) (aD (aX (fG (fB (f2 neX (ac 2) (ci ah))) (fB (f2 gtD (ag ae 3 (aa (ac 0) (aa (fC (.int 120)) (aa (fC (.int 4)) ah)))) (fC (.int 0))))) (aD (br 4 (f2 ixD (f2 ixD (ac 2) (ag ae 3 (aa (ac 0) (aa (fC (.int 121)) (aa (fB1 dg (aa (ac 2) ah)) ah))))) (fC (.int 2)))) (aD (br 5 (f2 ixD (f2 ixD (ac 2) (ag ae 3 (aa (ac 0) (aa (fC (.int 122)) (aa (fB1 dg (aa (ac 2) ah)) ah))))) (fC (.int 4)))) (aD (br 4 (f2 bM (f2 ixD (bW (aa (fC (.str "")) (aa (fC (.str "z.")) ah))) (ag ae 3 (aa (ac 0) (aa (fC (.int 123)) (aa (fC (.int 2)) ah))))) (ac 4))) (br 3 (ci (aa (f2 ixD (ac 3) (fC (.int 0))) (aa (ac 4) (aa (f2 ixD (bW (aa (ac 5) (aa (f2 bM (ac 5) (fC (.str "/y"))) ah))) (ag ae 3 (aa (ac 0) (aa (fC (.int 124)) (aa (fC (.int 2)) ah))))) (aa (f2 ixD (ac 3) (fC (.int 3))) ah))))))))) (fun ρ=>a_ (.nx ρ))) (aD (br 6 (ag ae 3 (aa (ac 0) (aa (fC (.int 125)) (aa (fC (.int 60)) ah))))) (aD (br 7 (aN [("_law_table_here",1),("_law_ask_here",3),("_law_now",6)] (cF (ac 2)) (a_ (fB (ag cD 4 (aa (ac 1) (aa (ac 0) (aa (ac 2) (aa (ac 3) ah))))))) (ac 0))) (aD (br 8 (bW ah)) (aD (sf 9 [9] (cF (iG (fB1 jy (aa (fC (.int 30)) ah)))) aM) (aD (aX (fB (f2 neX (ag ar 5 (aa (fC (.int 0)) (aa (ac 1) (aa (ac 2) (aa (ac 3) (aa (ac 6) ah)))))) (ac 8))) (aC (fC (.bl f_))) (fun ρ=>a_ (.nx ρ))) (aD (aX (fB (f2 neX (ag ar 5 (aa (fC (.int 1)) (aa (ac 1) (aa (ac 2) (aa (ac 3) (aa (ac 6) ah)))))) (fM (gm) (fC (.str "; ")) (aa (aN [] (cF (ac 8)) ck (f2 bM (f2 bM (f2 ixD (ac 0) (fC (.int 0))) (fC (.str "="))) (f2 ixD (ac 0) (fC (.int 1))))) ah)))) (aC (fC (.bl f_))) (fun ρ=>a_ (.nx ρ))) (aD (br 10 (fB1 eK (aa (aN [("_law_now",6),("_law_going",7)] (cF (ac 2)) ck (fIf (fB (f2 inX (ac 0) (ac 2))) (f2 bM (jR (ac 0) fA (eG (fC (.int 9)))) (ci (aa (fB1 xI (aa (f2 ixD (ac 0) (fC (.int 9))) (aa (ac 1) ah))) ah))) (ac 0))) ah))) (aD (aX (fB (f2 neX (ag ar 5 (aa (fC (.int 2)) (aa (ac 1) (aa (ac 2) (aa (ac 3) (aa (ac 6) ah)))))) (ac 10))) (aC (fC (.bl f_))) (fun ρ=>a_ (.nx ρ))) (aD (br 11 (f2 ixD (bW (aa (f1 pK (fC (.int 1))) (aa (fC (.int 10000)) (aa (fC .non) (aa (fC (.bl e_)) ah))))) (ag ae 3 (aa (ac 0) (aa (fC (.int 126)) (aa (fC (.int 4)) ah)))))) (aD (aX (fB (f2 neX (aN [("_law_table_here",1),("_law_jar_here",2),("_law_ask_here",3),("_law_odd",11)] (fun ρ=>bnd ((aa (fC (.int 3)) ah) ρ) iz) ck (ag ar 5 (aa (ac 0) (aa (ac 1) (aa (ac 2) (aa (ac 3) (aa (ac 4) ah))))))) (f2 xJ (bW (aa (ci (aa (fC (.str "refused")) (aa (fC (.int 6)) ah))) ah)) (fC (.int 3))))) (aC (fC (.bl f_))) (fun ρ=>a_ (.nx ρ))) (aD (aX (fB (f2 neX (aN [("_law_table_here",1),("_law_jar_here",2),("_law_ask_here",3),("_law_odd",11)] (fun ρ=>bnd ((aa (fC (.int 3)) ah) ρ) iz) ck (ag ar 5 (aa (ac 0) (aa (ac 1) (aa (ac 2) (aa (jR (ac 3) fA (eG (fC (.int 3)))) (aa (ac 4) ah))))))) (f2 xJ (bW (aa (ci (aa (fC (.str "refused")) (aa (fC (.int 3)) ah))) ah)) (fC (.int 3))))) (aC (fC (.bl f_))) (fun ρ=>a_ (.nx ρ))) (aD (aX (fB (f2 neX (aN [("_law_table_here",1),("_law_jar_here",2),("_law_ask_here",3),("_law_odd",11)] (fun ρ=>bnd ((aa (fC (.int 3)) ah) ρ) iz) ck (ag ar 5 (aa (ac 0) (aa (ac 1) (aa (fB1 kK (aa (ac 2) ah)) (aa (jR (ac 3) fA (eG (fC (.int 3)))) (aa (ac 4) ah))))))) (f2 xJ (bW (aa (ci (aa (fC (.str "refused")) (aa (fC (.int 5)) ah))) ah)) (fC (.int 3))))) (aC (fC (.bl f_))) (fun ρ=>a_ (.nx ρ))) (aC (f2 eqX (aN [("_law_table_here",1),("_law_jar_here",2),("_law_ask_here",3),("_law_odd",11)] (fun ρ=>bnd ((aa (fC (.int 3)) ah) ρ) iz) ck (ag ar 5 (aa (ac 0) (aa (fB1 kK (aa (ac 1) ah)) (aa (fB1 kK (aa (ac 2) ah)) (aa (ac 3) (aa (ac 4) ah))))))) (f2 xJ (bW (aa (ci (aa (fC (.str "refused")) (aa (fC (.int 1)) ah))) ah)) (fC (.int 3)))))))))))))))))))))
def cR:List Dv→Option (Rs Dv):=aY 12 cw
def TL3:bE:=("_law_stands",11,["_law_script"],cR) :: TL2
theorem jc (A:Af K "_law_stands" (top 104) f) (t:HA P w K mg base T45) (tl:HAT P w K mg base Pt qL TL2):HAT P w K mg base Pt qL TL3 :=
 jX (l4 (CT:=fun _=>True) XI Gn ["_law_script","_law_table_here","_law_jar_here","_law_ask_here","_law_house","_law_path_here","_law_now","_law_going","_law_due","_law_size","_law_behind","_law_odd"] ["_law_script"] cw A (by walk_at "d") (fun _ _=>trivial) (by delta cw aM; walk_at "b")) tl
def ms:FnE:=(dt (ag bz 1 (aa (ag bt 2 (aa (ac 0) (aa (fC (.int 0)) ah))) ah)) (ag cR 1 (aa (ac 0) ah)))
def qY:FnS:=(aC ms)
def qZ:List Dv→Option (Rs Dv):=aY 1 qY
theorem AF {fd:F8} (A:Fun K "law" "law" (top 105) f fd) (t:HA P w K mg base T45) (tl:HAT P w K mg base Pt qL TL3):FnOk P w K mg base CX0 12 f fd ["_law_script"] (spT Pt qL K qZ 1) :=
 uK (CT:=fun _=>True) ["_law_script"] ["_law_script"] qY (by kernel_rfl) (by kernel_rfl) A (wv (by kernel_rfl)) trivial (by delta qY ms; walk_at "b")
end
theorem af {K:c_} {x:Str} {st:GT} (f:i_) (m:String) (t c:Nat) (a:nsM K x=a_ (a_ (.ref f)):=by kernel_rfl) (l:K.lookup f=a_ ⟨r_ "function",ck,.func (HN x x (gG st) (bA st) (al st) .none .none .none (kS m t) ck (kR c) .none),#[]⟩:=by kernel_rfl) (cc:JF K (kR c) x=e_:=by kernel_rfl) (k:F4 K (.ref f)=e_:=by kernel_rfl):Af K x st f:=⟨a,⟨_,yw l cc k⟩,k⟩
theorem all_mk {l:Jt} {w:y_} {K:c_} {h:FF} {mg:Str→Option d_} {fa:i_} (X:K.In h) (G:h.Ns rl mg) (hfa:mg "law"=a_ (.ref fa))
 {f1 f2 f3 f4 f5 f6 f7 f8 f9 f10 f11 f12 f13 f14 f15 f16 f17 f18 f19 f20 f21 f22 f23 f24 f25 f26 f27 f28 f29 f30 f31 f32 f33 f34 f35 f36 f37 f38 f39 f40 f41 f42 f43 f44 f45 f46 f47 f48 f49 f50 f51 f52 f53 f54 f55 f56 f57 fl:i_}
 (A1:Af K "_law_refused" (top 101) f1)
 (A2:Af K "ends_longest_first" (top 25) f2)
 (A3:Af K "behind_first_dot" (top 26) f3)
 (A4:Af K "is_told_open" (top 27) f4)
 (A5:Af K "find_open_end" (top 28) f5)
 (A6:Af K "find_own_end" (top 29) f6)
 (A7:Af K "comes_from_near" (top 47) f7)
 (A8:Af K "has_ended" (top 70) f8)
 (A9:Af K "lies_within" (top 24) f9)
 (A10:Af K "is_for" (top 71) f10)
 (A11:Af K "lies_under" (top 34) f11)
 (A12:Af K "goes" (top 72) f12)
 (A13:Af K "is_text_of" (top 10) f13)
 (A14:Af K "is_label" (top 19) f14)
 (A15:Af K "is_name" (top 20) f15)
 (A16:Af K "is_path" (top 33) f16)
 (A17:Af K "is_tuple_of" (top 12) f17)
 (A18:Af K "is_ask" (top 45) f18)
 (A19:Af K "need_ask" (top 46) f19)
 (A20:Af K "key" (top 69) f20)
 (A21:Af K "has_no_key_twice" (top 77) f21)
 (A22:Af K "is_by_made" (top 76) f22)
 (A23:Af K "is_whole_number" (top 11) f23)
 (A24:Af K "is_moment" (top 42) f24)
 (A25:Af K "is_moment_or_none" (top 43) f25)
 (A26:Af K "is_note_name" (top 53) f26)
 (A27:Af K "is_reach" (top 55) f27)
 (A28:Af K "is_worth" (top 54) f28)
 (A29:Af K "is_note" (top 68) f29)
 (A30:Af K "is_jar" (top 75) f30)
 (A31:Af K "need_jar" (top 78) f31)
 (A32:Af K "need_moment" (top 44) f32)
 (A33:Af K "is_rule" (top 21) f33)
 (A34:Af K "is_table" (top 22) f34)
 (A35:Af K "need_table" (top 23) f35)
 (A36:Af K "need_sending" (top 79) f36)
 (A37:Af K "sent" (top 80) f37)
 (A38:Af K "sent_text" (top 81) f38)
 (A39:Af K "used_at" (top 83) f39)
 (A40:Af K "used" (top 82) f40)
 (A41:Af K "_law_told" (top 102) f41)
 (A42:Af K "_law_known_one" (top 103) f42)
 (A43:Af K "_law_cell" (top 85) f43)
 (A44:Af K "_law_drawn" (top 86) f44)
 (A45:Af K "_law_name" (top 87) f45)
 (A46:Af K "_law_path" (top 89) f46)
 (A47:Af K "_law_ask" (top 90) f47)
 (A48:Af K "_law_ends" (top 91) f48)
 (A49:Af K "_law_open" (top 92) f49)
 (A50:Af K "_law_own" (top 93) f50)
 (A51:Af K "_law_near" (top 96) f51)
 (A52:Af K "_law_under" (top 95) f52)
 (A53:Af K "_law_within" (top 94) f53)
 (A54:Af K "_law_goes" (top 99) f54)
 (A55:Af K "_law_jar" (top 100) f55)
 (A56:Af K "_law_table" (top 88) f56)
 (A57:Af K "_law_stands" (top 104) f57)
 (AL:Af K "law" (top 105) fl) (ma:CC.all (C7 K)=e_) {Pt:i_} (ct:ctB K f37 Pt=e_) (bb:bmB K=e_) {C0 C1 C2 C3 C4 C5 C6 CJ:i_} (cb:caB K [0,1,2,3,4,5,6] [C0,C1,C2,C3,C4,C5,C6] CJ 7=e_) :
 ∃ fd:F8,(∀ (s:ge) (v:d_),Ji s fd ⟨[v],[]⟩ [("_law_script",v)])∧∀ base:FF,K.In base→base.Ns rl mg→FnOk l.prog w K mg base CX0 12 fa fd ["_law_script"] (spT Pt qL K qZ 1):=by
 have e:=hfa.symm.trans (G_ X G AL.a)
 cases e
 have M:=z7 X G CC ma
 obtain ⟨fd,Fn⟩:=AL.F
 refine ⟨fd,?_,fun base _ _=>?_⟩
 · obtain ⟨oc,od,kV,doc,pm,an,cdv,ct,osl,rfl,lk,hcd⟩:=Fn.ex
   exact fun s v=>.of_eq rfl
 obtain ⟨xa,ca⟩:=Dg X G cb
 have bi:=Dk X G bb
 have t0:HA l.prog w K mg base T0:=z6
 have te0:HAE l.prog w K mg base TE0:=wl
 have tm0:HAM l.prog w K mg base TM0:=wm
 have tl0:HAT l.prog w K mg base Pt qL TL0:=wB
 have tu0:ow l.prog w K mg base Pt qL TU0:=tE
 have tm1:=iM X G M bi xa ca A1 tm0
 have t1:=eQ X G M bi xa ca A2 t0
 have t2:=fT X G M bi xa ca A3 t1
 have t3:=iN X G M bi xa ca A4 t2
 have t4:=ib X G M bi xa ca A5 t3
 have t5:=iO X G M bi xa ca A6 t4
 have t6:=gy X G M bi xa ca A7 t5
 have t7:=k8 X G M bi xa ca A8 t6
 have t8:=i4 X G M bi xa ca A9 t7
 have t9:=qU X G M bi xa ca A10 t8
 have t10:=j3 X G M bi xa ca A11 t9
 have t11:=wK X G M bi xa ca A12 t10
 have t12:=j4 X G M bi xa ca A13 t11
 have t13:=l8 X G M bi xa ca A14 t12
 have t14:=oB X G M bi xa ca A15 t13
 have t15:=oD X G M bi xa ca A16 t14
 have t16:=i5 X G M bi xa ca A17 t15
 have t17:=qW X G M bi xa ca A18 t16
 have te1:=mf X G M bi xa ca A19 t17 te0
 have t18:=AE X G M bi xa ca A20 t17
 have t19:=fU X G M bi xa ca A21 t18
 have t20:=j5 X G M bi xa ca A22 t19
 have t21:=gz X G M bi xa ca A23 t20
 have t22:=k9 X G M bi xa ca A24 t21
 have t23:=fE X G M bi xa ca A25 t22
 have t24:=iR X G M bi xa ca A26 t23
 have t25:=mh X G M bi xa ca A27 t24
 have t26:=mi X G M bi xa ca A28 t25
 have t27:=oF X G M bi xa ca A29 t26
 have t28:=qX X G M bi xa ca A30 t27
 have te2:=mj X G M bi xa ca A31 t28 te1
 have te3:=i7 X G M bi xa ca A32 t28 te2
 have t29:=oG X G M bi xa ca A33 t28
 have t30:=ml X G M bi xa ca A34 t29
 have te4:=j6 X G M bi xa ca A35 t30 te3
 have te5:=iT X G M bi xa ca A36 te4
 have tu1:=wL X G M bi xa ca A37 t30 te5 tu0 ct
 have tu2:=lb X G M bi xa ca A38 tu1
 have t31:=oH X G M bi xa ca A39 t30
 have tu3:=wM X G M bi xa ca A40 t31 te5 tu2
 have tl1:=lc X G M bi xa ca A41 tm1 tl0 tu3
 have tl2:=gW X G M bi xa ca A42 tl1
 have t32:=lf X G M bi xa ca A43 t31
 have t33:=j7 X G M bi xa ca A44 t32
 have t34:=lg X G M bi xa ca A45 t33
 have t35:=lh X G M bi xa ca A46 t34
 have t36:=mn X G M bi xa ca A47 t35
 have t37:=ll X G M bi xa ca A48 t36
 have t38:=lm X G M bi xa ca A49 t37
 have t39:=mq X G M bi xa ca A50 t38
 have t40:=ln X G M bi xa ca A51 t39
 have t41:=j8 X G M bi xa ca A52 t40
 have t42:=i8 X G M bi xa ca A53 t41
 have t43:=lq X G M bi xa ca A54 t42
 have t44:=mr X G M bi xa ca A55 t43
 have t45:=j9 X G M bi xa ca A56 t44
 have tl3:=jc X G M bi xa ca A57 t45 tl2
 exact AF X G M bi xa ca Fn t45 tl3
end G
set_option maxHeartbeats 4000000
namespace FD
open PySem PySem.Spec PyProof.Rows L2
theorem nA {elt:FnE} {cap:Ev} {α:Type} (en:α→Dv) (f:α→Dv):∀ {l:List α},(∀ a∈l,elt (cap.set 0 (a_ (en a)))=a_ (.ok (f a)))→pJ ck elt cap (l.map en)=a_ (l.map f)
 | [],_=>rfl
 | a :: l,h=>by
  have ih:=nA (elt:=elt) (cap:=cap) en f (l:=l) fun b hb=>h b (on _ hb)
  rw [FV,FV]
  unfold pJ
  dsimp only
  rw [h a p_,ih]
theorem lr {tst:FnB} {elt:FnE} {cap:Ev} {α:Type} (en:α→Dv) (p:α→Bool) (f:α→Dv):∀ {l:List α},(∀ a∈l,tst (cap.set 0 (a_ (en a)))=a_ (.ok (p a))∧elt (cap.set 0 (a_ (en a)))=a_ (.ok (f a)))→pJ (a_ tst) elt cap (l.map en)=a_ ((l.filter p).map f)
 | [],_=>rfl
 | a :: l,h=>by
  have ih:=lr (tst:=tst) (elt:=elt) (cap:=cap) en p f (l:=l) fun b hb=>h b (on _ hb)
  obtain ⟨h1,h2⟩:=h a p_
  rw [FV]
  unfold pJ
  dsimp only
  rw [h1,ih]
  cases q:p a with
  | true=>dsimp only; rw [h2,IN q]; rfl
  | false=>dsimp only; rw [HJ (by rw [q]; decide)]
theorem nB {elt:FnE} {cap:Ev} {α:Type} (en:α→Dv) (f:α→Dv):∀ {l:List α},(∀ a∈l,elt (cap.set 0 (a_ (en a)))=a_ (.ok (f a)))→hZ (gN 0) ck elt cap (l.map en)=a_ (l.map f)
 | [],_=>rfl
 | a :: l,h=>by
  have ih:=nB (elt:=elt) (cap:=cap) en f (l:=l) fun b hb=>h b (on _ hb)
  rw [FV,FV]
  unfold hZ
  show (match elt (cap.set 0 (a_ (en a))) with | some (.ok y)=>_ | _=>_)=_
  rw [h a p_,ih]
theorem ls {tst:FnB} {elt:FnE} {cap:Ev} {α:Type} (en:α→Dv) (p:α→Bool) (f:α→Dv):∀ {l:List α},(∀ a∈l,tst (cap.set 0 (a_ (en a)))=a_ (.ok (p a))∧elt (cap.set 0 (a_ (en a)))=a_ (.ok (f a)))→hZ (gN 0) (a_ tst) elt cap (l.map en)=a_ ((l.filter p).map f)
 | [],_=>rfl
 | a :: l,h=>by
  have ih:=ls (tst:=tst) (elt:=elt) (cap:=cap) en p f (l:=l) fun b hb=>h b (on _ hb)
  obtain ⟨h1,h2⟩:=h a p_
  rw [FV]
  unfold hZ
  show (match tst (cap.set 0 (a_ (en a))) with | some (.ok e_)=>_ | some (.ok f_)=>_ | _=>_)=_
  rw [h1,ih]
  cases q:p a with
  | true=>dsimp only; rw [h2,IN q]; rfl
  | false=>dsimp only; rw [HJ (by rw [q]; decide)]
theorem ef {cs:List (Str×Nat)} {src:FnA} {elt:FnE} {ρ:Ev} {α:Type} (en f:α→Dv) {l:List α} (hs:src ρ=a_ (.ok (l.map en))) (hl:l.length≤100000) (h:∀ a∈l,elt ((nZ cs ρ).set 0 (a_ (en a)))=a_ (.ok (f a))):aN cs src ck elt ρ=a_ (.ok (.lst (l.map f))):=by
 unfold aN
 rw [hs]
 show (match pJ ck elt (nZ cs ρ) (l.map en) with | some ys=>_ | none=>_)=_
 rw [nA en f h]
 dsimp only
 rw [if_pos ⟨by simpa using hl,by simpa using hl⟩]
theorem iV {cs:List (Str×Nat)} {src:FnA} {tst:FnB} {elt:FnE} {ρ:Ev} {α:Type} (en:α→Dv) (p:α→Bool) (f:α→Dv) {l:List α} (hs:src ρ=a_ (.ok (l.map en))) (hl:l.length≤100000) (h:∀ a∈l,tst ((nZ cs ρ).set 0 (a_ (en a)))=a_ (.ok (p a))∧elt ((nZ cs ρ).set 0 (a_ (en a)))=a_ (.ok (f a))) :
 aN cs src (a_ tst) elt ρ=a_ (.ok (.lst ((l.filter p).map f))):=by
 unfold aN
 rw [hs]
 show (match pJ (a_ tst) elt (nZ cs ρ) (l.map en) with | some ys=>_ | none=>_)=_
 rw [lr en p f h]
 dsimp only
 have:=GD p l
 rw [if_pos ⟨by simp; omega,by simpa using hl⟩]
theorem q8 {cs:List (Str×Nat)} {src:FnA} {elt:FnE} {ρ:Ev} {α:Type} (en f:α→Dv) {l:List α} (hs:src ρ=a_ (.ok (l.map en))) (hl:l.length≤100000) (h:∀ a∈l,elt ((fD 1 cs ρ).set 0 (a_ (en a)))=a_ (.ok (f a))):bj 1 cs src (gN 0) ck elt ρ=a_ (.ok (.lst (l.map f))):=by
 unfold bj
 rw [hs]
 show (match hZ (gN 0) ck elt (fD 1 cs ρ) (l.map en) with | some ys=>_ | none=>_)=_
 rw [nB en f h]
 dsimp only
 rw [if_pos ⟨by simpa using hl,by simpa using hl⟩]
theorem oI {cs:List (Str×Nat)} {src:FnA} {tst:FnB} {elt:FnE} {ρ:Ev} {α:Type} (en:α→Dv) (p:α→Bool) (f:α→Dv) {l:List α} (hs:src ρ=a_ (.ok (l.map en))) (hl:l.length≤100000) (h:∀ a∈l,tst ((fD 1 cs ρ).set 0 (a_ (en a)))=a_ (.ok (p a))∧elt ((fD 1 cs ρ).set 0 (a_ (en a)))=a_ (.ok (f a))) :
 bj 1 cs src (gN 0) (a_ tst) elt ρ=a_ (.ok (.lst ((l.filter p).map f))):=by
 unfold bj
 rw [hs]
 show (match hZ (gN 0) (a_ tst) elt (fD 1 cs ρ) (l.map en) with | some ys=>_ | none=>_)=_
 rw [ls en p f h]
 dsimp only
 have:=GD p l
 rw [if_pos ⟨by simp; omega,by simpa using hl⟩]
theorem wN {i j:Int} (h:-(2 ^ 62)≤i∧i < 2 ^ 62∧-(2 ^ 62)≤j∧j < 2 ^ 62):rM [.int i,.int j]=a_ (.ok (rng i (j - i).toNat)):=by rw [rM,if_pos h]
theorem wO {j:Int} (h:-(2 ^ 62)≤j∧j < 2 ^ 62):iz [.int j]=a_ (.ok (rng 0 j.toNat)):=by rw [iz,if_pos h]
theorem wP {n:Nat} (h:n≤1000):-(2 ^ 62)≤(1:Int)∧(1:Int) < 2 ^ 62∧-(2 ^ 62)≤(n:Int)∧(n:Int) < 2 ^ 62:=by omega
theorem AG {n:Nat} (h:n≤1000):rM [.int 1,.int (n:Int)]=a_ (.ok (rng 1 ((n:Int) - 1).toNat)):=wN (wP h)
theorem uL {n:Nat} (h:n≤1000):iz [.int (n:Int)]=a_ (.ok (rng 0 n)):=by
 rw [wO (by omega)]; rfl
theorem lu {α:Type} (p:α→Bool):∀ l:List α,iB (l.map fun a=>Dv.bl (p a))=a_ (l.map p)
 | []=>rfl
 | a :: l=>by
  show (match iB (l.map fun a=>Dv.bl (p a)) with | some bs=>a_ (p a :: bs) | none=>ck)=_
  rw [lu p l]
  rfl
mutual
def pln:Dv→Bool
 | .exn _=>f_
 | .tup ds=>plns ds
 | .lst ds=>plns ds
 | _=>e_
def plns:List Dv→Bool
 | []=>e_
 | d :: ds=>pln d && plns ds
end
mutual
theorem nF:∀ d:Dv,pln d=e_→Ge (cy d) (cy d)=e_
 | .non,_=>by simp [cy,Ge]
 | .bl b,_=>by simp [cy,Ge]
 | .int b,_=>by simp [cy,Ge]
 | .str b,_=>by simp [cy,Ge]
 | .tup ds,h=>by simp only [cy,Ge]; exact eqvs_refl ds (by simpa [pln] using h)
 | .lst ds,h=>by simp only [cy,Ge]; exact eqvs_refl ds (by simpa [pln] using h)
 | .scr ns,_=>by
  simp only [cy,Ge]
  induction ns with
  | nil=>simp [Hb]
  | cons n ns ih=>simp [Hb,Ge]; exact ih rfl
 | .exn _,h=>by simp [pln] at h
theorem eqvs_refl:∀ ds:List Dv,plns ds=e_→Hb (toPys ds) (toPys ds)=e_
 | [],_=>by simp [toPys,Hb]
 | d :: ds,h=>by
  have h':pln d=e_∧plns ds=e_:=by simpa [plns] using h
  simp only [toPys,Hb,l_]
  exact ⟨nF d h'.1,eqvs_refl ds h'.2⟩
end
theorem q9 {d:Dv} (h1:okP d=e_) (h2:pln d=e_):neX d d=a_ (.ok (.bl f_)):=by
 unfold neX
 split
 · rename_i b hb
   have:b=e_:=by
    cases d <;> simp [eqS] at hb
    · exact hb
    · exact hb
    · exact hb
    · rw [← hb]; unfold seq; simp
   rw [this]; rfl
 · rw [h1,nF d h2]; rfl
structure It1 (k:Nat) (d:Dv):Prop where
 c:Gm (cy d)=e_
 dp:(cy d).depth≤k
 p:pln d=e_
theorem tN {k:Nat}:∀ {ds:List Dv},(∀ d∈ds,It1 k d)→GQ (toPys ds)=e_∧Iz (toPys ds)≤k∧plns ds=e_
 | [],_=>by simp [toPys,GQ,Iz,plns]
 | d :: ds,h=>by
  obtain ⟨h1,h2,h3⟩:=tN (ds:=ds) fun d' hd=>h d' (on _ hd)
  have h0:=h d p_
  simp only [toPys,GQ,Iz,plns,l_]
  exact ⟨⟨h0.c,h1⟩,by have:=h0.dp; omega,h0.p,h3⟩
theorem rg {k:Nat} {ds:List Dv} (h:∀ d∈ds,It1 k d):It1 (k + 1) (.tup ds):=by
 obtain ⟨h1,h2,h3⟩:=tN h
 exact ⟨by simpa [cy,Gm] using h1,by simp [cy,IR]; exact h2,by simpa [pln] using h3⟩
theorem AH {k:Nat} {ds:List Dv} (h:∀ d∈ds,It1 k d):It1 (k + 1) (.lst ds):=by
 obtain ⟨h1,h2,h3⟩:=tN h
 exact ⟨by simpa [cy,Gm] using h1,by simp [cy,IR]; exact h2,by simpa [pln] using h3⟩
theorem It1.okP {k:Nat} {d:Dv} (h:It1 k d) (hk:k≤64):okP d=e_:=by
 unfold FD.okP SeqAt.shaped
 rw [h.c]
 have:=h.dp
 simp
 omega
theorem It1.le {k m:Nat} {d:Dv} (h:It1 k d) (hk:k≤m):It1 m d:=⟨h.c,F6 h.dp hk,h.p⟩
theorem hX {x:Str} (h:Gm (.str x)=e_):It1 0 (.str x):=⟨h,by simp [cy,IR],rfl⟩
theorem rh {i:Int}:It1 0 (.int i):=⟨rfl,by simp [cy,IR],rfl⟩
theorem AI {i:Bool}:It1 0 (.bl i):=⟨rfl,by simp [cy,IR],rfl⟩
theorem AJ:It1 0 .non:=⟨rfl,by simp [cy,IR],rfl⟩
theorem lv {α:Type} (f:α→Dv):∀ l:List α,toPys (l.map f)=l.map fun a=>cy (f a)
 | []=>rfl
 | a :: l=>by simp [toPys,lv f l]
theorem Do {x:Dv} {α:Type} {en:α→Dv} {l:List α} {p:α→Bool} (hx:It1 5 x) (hf:eE x=f_) (hl:∀ a∈l,It1 5 (en a)) (hp:∀ a∈l,Ge (cy (en a)) (cy x)=p a):inX x (.lst (l.map en))=a_ (.ok (.bl (l.any p)))∧m8 x (.lst (l.map en))=a_ (.ok (.bl (!l.any p)))∧inX x (.tup (l.map en))=a_ (.ok (.bl (l.any p)))∧m8 x (.tup (l.map en))=a_ (.ok (.bl (!l.any p))):=by
 have e:inP x (l.map en)=a_ (l.any p):=by
  unfold inP
  have h1:=hx.okP (by omega)
  have h2:=(tN (k:=5) (ds:=l.map en) (by intro d hd; obtain ⟨a,ha,rfl⟩:=G0.mp hd; exact hl a ha)).1
  have h3:t_ ((cy x).depth≤63)=e_:=by have:=hx.dp; simp; omega
  rw [h1,h2,h3]
  simp only [Bool.and_self,if_true]
  rw [lv]
  congr 1
  clear h1 h2 h3 hl hx
  induction l with
  | nil=>rfl
  | cons a l ih =>
   simp only [FV,Jk]
   rw [hp a p_,ih fun b hb=>hp b (on _ hb)]
 have e0:∀ ys,inL x ys=ck:=fun ys=>by unfold inL; rw [hf]; rfl
 have n1:xB x (.lst (l.map en))=ck:=by cases x <;> first | exact e0 _ | rfl
 have n2:xB x (.tup (l.map en))=ck:=by cases x <;> first | exact e0 _ | rfl
 refine ⟨?_,?_,?_,?_⟩ <;> simp [inX,m8,By,n1,n2,e]
end FD
namespace G
open PySem PySem.Spec PyProof.Rows L2 FD
theorem oJ {n:Nat} {B:FnS} {ds:List Dv} {d:Dv} (h:B (ds.map a_ ++ o_ (n - ds.length) ck)=a_ (.rt d)):gK n B ds=a_ (.ok d):=by unfold gK; rw [h]
theorem wQ {n:Nat} {B:FnS} {ds:List Dv} {c:Nat} (h:B (ds.map a_ ++ o_ (n - ds.length) ck)=a_ (.exc c)):gK n B ds=a_ (.exc c):=by unfold gK; rw [h]
theorem cE (F:List Dv→Option (Rs Dv)) {n:Nat} {g:FnA} {ρ:Ev} {ds:List Dv} {r:Option (Rs Dv)} (h:g ρ=a_ (.ok ds)) (hl:ds.length=n) (hF:F ds=r):aB F n g ρ=r:=by
 unfold aB
 rw [h,← hF]
 exact if_pos hl
theorem Dr {v:FnE} {ρ:Ev} {c:Nat} (h:v ρ=a_ (.exc c)):bq v ρ=a_ (.exc c):=by unfold bq; rw [h]; rfl
theorem Ds {v:FnE} {ρ:Ev} {c:Nat} (h:v ρ=a_ (.exc c)):aC v ρ=a_ (.exc c):=by unfold aC; rw [h]; rfl
theorem AK {a b:FnS} {ρ:Ev} {c:Nat} (h:a ρ=a_ (.exc c)):aD a b ρ=a_ (.exc c):=by unfold aD; rw [h]; rfl
theorem wR {cs:List (Str×Nat)} {src:FnA} {tst:Option FnB} {elt:FnE} {ρ:Ev} {c:Nat} (h:src ρ=a_ (.exc c)):aN cs src tst elt ρ=a_ (.exc c):=by unfold aN; rw [h]; rfl
theorem AM {f:FnE} {ρ:Ev} {c:Nat} (h:f ρ=a_ (.exc c)):cF f ρ=a_ (.exc c):=by unfold cF; rw [h]; rfl
theorem wS (ns:List Int) (hl:ns.length≤63) (k:Int):∃ c,bX [.scr ns,.int k]=a_ (.ok (.int c)):=by
 cases ns with
 | nil=>exact ⟨7 * k,by kernel_rfl⟩
 | cons n r =>
  have h0:0 < (n :: r).length:=by simp
  have h1:(0:Int) < ((n :: r).length:Int):=by omega
  have h2:((n :: r).length:Int) < 1073741824:=by omega
  have h3:0≤k % ((n :: r).length:Int):=Hm _ (by omega)
  have h4:k % ((n :: r).length:Int) < ((n :: r).length:Int):=GH _ h1
  have h5:(k % ((n :: r).length:Int)).toNat < (n :: r).length:=by omega
  refine ⟨(n :: r)[(k % ((n :: r).length:Int)).toNat] + 6553 * (k / ((n :: r).length:Int)),?_⟩
  have hat:atD (n :: r) (k % ((n :: r).length:Int))=a_ (n :: r)[(k % ((n :: r).length:Int)).toNat]:=by
   unfold atD
   rw [if_pos h3,xy h5]
  have hm:gh (.int k) (.int ((n :: r).length:Int))=a_ (.ok (.int (k % ((n :: r).length:Int)))):=by
   show (if 0 < ((n :: r).length:Int) then _ else _)=_
   rw [if_pos h1]
  have hd:gk (.int k) (.int ((n :: r).length:Int))=a_ (.ok (.int (k / ((n :: r).length:Int)))):=by
   show (if 0 < ((n :: r).length:Int)∧((n :: r).length:Int) < 1073741824 then _ else _)=_
   rw [if_pos ⟨h1,h2⟩]
  have hi:ixD (.scr (n :: r)) (.int (k % ((n :: r).length:Int)))=a_ (.ok (.int (n :: r)[(k % ((n :: r).length:Int)).toNat])):=by
   show (match atD (n :: r) (k % ((n :: r).length:Int)) with | some d=>_ | none=>_)=_
   rw [hat]
  show (match dc [a_ (.scr (n :: r)),a_ (.int k)] with | some (.nx _)=>_ | some (.rt d)=>_ | _=>_)=_
  have e:dc [a_ (.scr (n :: r)),a_ (.int k)]=cg (bnd (bnd (gh (.int k) (.int ((n :: r).length:Int))) fun i=>ixD (.scr (n :: r)) i) fun x=>bnd (bnd (gk (.int k) (.int ((n :: r).length:Int))) fun q=>hW (.int 6553) q) fun y=>cB x y) fun d=>a_ (.rt d):=by kernel_rfl
  rw [e,hm,hd]
  show (match cg (bnd (ixD (.scr (n :: r)) (.int (k % ((n :: r).length:Int)))) fun x=>_) _ with | some (.nx _)=>_ | some (.rt d)=>_ | _=>_)=_
  rw [hi]
  kernel_rfl
def dr1 (c k:Int):Int:=(c % 2147483563 * 69069 + 104723 * (k + 1)) % 2147483563
def dr2 (c:Int):Int:=(c * c + c / 3) % 2147483399
def dr3 (c m:Int):Int:=(c * c + c / 7) % 2147483647 / 11 % m
theorem lw {i j:Int} (h:(-18446744073709551616 < i∧i < 18446744073709551616)∨(-18446744073709551616 < j∧j < 18446744073709551616)):hW (.int i) (.int j)=a_ (.ok (.int (i * j))):=by
 show (if _ then _ else _)=_
 rw [if_pos h]
theorem lx {i j:Int} (h:0 < j):gh (.int i) (.int j)=a_ (.ok (.int (i % j))):=by
 show (if _ then _ else _)=_
 rw [if_pos h]
theorem aL (ns:List Int) (hl:ns.length≤63) (k m:Int) (hm:0 < m):∃ d:Int,0≤d∧d < m∧ae [.scr ns,.int k,.int m]=a_ (.ok (.int d)):=by
 obtain ⟨c,hc⟩:=wS ns hl k
 refine ⟨dr3 (dr2 (dr1 c k)) m,Hm _ (by omega),GH _ hm,?_⟩
 have b1:0≤dr1 c k∧dr1 c k < 2147483563:=⟨Hm _ (by omega),GH _ (by omega)⟩
 have b2:0≤dr2 (dr1 c k)∧dr2 (dr1 c k) < 2147483399:=⟨Hm _ (by omega),GH _ (by omega)⟩
 have b0:0≤c % 2147483563∧c % 2147483563 < 2147483563:=⟨Hm _ (by omega),GH _ (by omega)⟩
 show aY 4 cf [.scr ns,.int k,.int m]=_
 have s1:(ag bX 2 (aa (ac 0) (aa (ac 1) ah))) [a_ (.scr ns),a_ (.int k),a_ (.int m),ck]=a_ (.ok (.int c)):=by
  show (match bX [.scr ns,.int k] with | some (.ok d)=>(a_ (.ok d):Option (Rs Dv)) | _=>ck)=_
  rw [hc]
 have e1:(br 3 (f2 gh (f2 cB (f2 hW (f2 gh (ag bX 2 (aa (ac 0) (aa (ac 1) ah))) (fC (.int 2147483563))) (fC (.int 69069))) (f2 hW (fC (.int 104723)) (f2 cB (ac 1) (fC (.int 1))))) (fC (.int 2147483563)))) [a_ (.scr ns),a_ (.int k),a_ (.int m),ck]=a_ (.nx [a_ (.scr ns),a_ (.int k),a_ (.int m),a_ (.int (dr1 c k))]):=by
  show cg (bnd (bnd (bnd (bnd ((ag bX 2 (aa (ac 0) (aa (ac 1) ah))) [a_ (.scr ns),a_ (.int k),a_ (.int m),ck]) fun x=>gh x (.int 2147483563)) fun x=>hW x (.int 69069)) fun x=>bnd (hW (.int 104723) (.int (k + 1))) fun y=>cB x y) fun x=>gh x (.int 2147483563)) (fun d=>a_ (.nx [a_ (.scr ns),a_ (.int k),a_ (.int m),a_ d]))=_
  rw [s1]
  show cg (bnd (bnd (bnd (gh (.int c) (.int 2147483563)) fun x=>hW x (.int 69069)) fun x=>bnd (hW (.int 104723) (.int (k + 1))) fun y=>cB x y) fun x=>gh x (.int 2147483563)) _=_
  rw [lx (by omega),lw (i:=104723) (.inl (by omega))]
  show cg (bnd (bnd (hW (.int (c % 2147483563)) (.int 69069)) fun x=>cB x (.int (104723 * (k + 1)))) fun x=>gh x (.int 2147483563)) _=_
  rw [lw (.inl (by omega))]
  show cg (gh (.int (c % 2147483563 * 69069 + 104723 * (k + 1))) (.int 2147483563)) _=_
  rw [lx (by omega)]
  rfl
 generalize hd1:dr1 c k=d1 at *
 have e2:(br 3 (f2 gh (f2 cB (f2 hW (ac 3) (ac 3)) (f2 gk (ac 3) (fC (.int 3)))) (fC (.int 2147483399)))) [a_ (.scr ns),a_ (.int k),a_ (.int m),a_ (.int d1)]=a_ (.nx [a_ (.scr ns),a_ (.int k),a_ (.int m),a_ (.int (dr2 d1))]):=by
  show cg (bnd (bnd (hW (.int d1) (.int d1)) fun x=>cB x (.int (d1 / 3))) fun x=>gh x (.int 2147483399)) (fun d=>a_ (.nx [a_ (.scr ns),a_ (.int k),a_ (.int m),a_ d]))=_
  rw [lw (.inl (by omega))]
  show cg (gh (.int (d1 * d1 + d1 / 3)) (.int 2147483399)) _=_
  rw [lx (by omega)]
  rfl
 generalize hd2:dr2 d1=d2 at *
 have e3:(aC (f2 gh (f2 gk (f2 gh (f2 cB (f2 hW (ac 3) (ac 3)) (f2 gk (ac 3) (fC (.int 7)))) (fC (.int 2147483647))) (fC (.int 11))) (ac 2))) [a_ (.scr ns),a_ (.int k),a_ (.int m),a_ (.int d2)]=a_ (.rt (.int (dr3 d2 m))):=by
  show cg (bnd (bnd (bnd (bnd (hW (.int d2) (.int d2)) fun x=>cB x (.int (d2 / 7))) fun x=>gh x (.int 2147483647)) fun x=>gk x (.int 11)) fun x=>gh x (.int m)) (fun d=>a_ (.rt d))=_
  rw [lw (.inl (by omega))]
  show cg (bnd (bnd (gh (.int (d2 * d2 + d2 / 7)) (.int 2147483647)) fun x=>gk x (.int 11)) fun x=>gh x (.int m)) _=_
  rw [lx (by omega)]
  show cg (gh (.int ((d2 * d2 + d2 / 7) % 2147483647 / 11)) (.int m)) _=_
  rw [lx hm]
  rfl
 show (match cf [a_ (.scr ns),a_ (.int k),a_ (.int m),ck] with | some (.nx _)=>_ | some (.rt d)=>_ | _=>_)=_
 have e:cf [a_ (.scr ns),a_ (.int k),a_ (.int m),ck]=a_ (.rt (.int (dr3 d2 m))):=by
  show sq ((br 3 _) _) (fun ρ=>sq ((br 3 _) ρ) _)=_
  rw [e1]
  show sq ((br 3 _) [a_ (.scr ns),a_ (.int k),a_ (.int m),a_ (.int d1)]) _=_
  rw [e2]
  exact e3
 rw [e]
def menu:List Str:=[b_ "a.b",b_ "b",b_ "x.a.b",b_ "y.x.a.b",b_ "c.uk",b_ "uk",b_ "d.c.uk",b_ "e.d.c.uk",b_ "w.ck",b_ "v.w.ck",b_ "ck",b_ "g-1.a.b",b_ "7.b",b_ "p.q"]
def okO (o:Option (Rs Dv)):Option (Rs Dv):=match o with
 | some (.ok d)=>a_ (.ok d)
 | _=>ck
theorem mv (ns:List Int) (hl:ns.length≤63) (k:Int):∃ p∈menu,aK [.scr ns,.int k]=a_ (.ok (.str p)):=by
 obtain ⟨d,h0,h1,hd⟩:=aL ns hl k 14 (by omega)
 have e:aK [.scr ns,.int k]=(match cg (bnd (match ae [.scr ns,.int k,.int 14] with | some (.ok d)=>(a_ (.ok d):Option (Rs Dv)) | _=>ck) fun i=>ixD (.lst (menu.map Dv.str)) i) fun d=>a_ (.rt d) with
  | some (.nx _)=>a_ (.ok .non)
  | some (.rt d)=>a_ (.ok d)
  | _=>ck):=by kernel_rfl
 rw [e,hd]
 have hc:d=0∨d=1∨d=2∨d=3∨d=4∨d=5∨d=6∨d=7∨d=8∨d=9∨d=10∨d=11∨d=12∨d=13:=by omega
 rcases hc with rfl | rfl | rfl | rfl | rfl | rfl | rfl | rfl | rfl | rfl | rfl | rfl | rfl | rfl
 · exact ⟨b_ "a.b",by simp [menu],by kernel_rfl⟩
 · exact ⟨b_ "b",by simp [menu],by kernel_rfl⟩
 · exact ⟨b_ "x.a.b",by simp [menu],by kernel_rfl⟩
 · exact ⟨b_ "y.x.a.b",by simp [menu],by kernel_rfl⟩
 · exact ⟨b_ "c.uk",by simp [menu],by kernel_rfl⟩
 · exact ⟨b_ "uk",by simp [menu],by kernel_rfl⟩
 · exact ⟨b_ "d.c.uk",by simp [menu],by kernel_rfl⟩
 · exact ⟨b_ "e.d.c.uk",by simp [menu],by kernel_rfl⟩
 · exact ⟨b_ "w.ck",by simp [menu],by kernel_rfl⟩
 · exact ⟨b_ "v.w.ck",by simp [menu],by kernel_rfl⟩
 · exact ⟨b_ "ck",by simp [menu],by kernel_rfl⟩
 · exact ⟨b_ "g-1.a.b",by simp [menu],by kernel_rfl⟩
 · exact ⟨b_ "7.b",by simp [menu],by kernel_rfl⟩
 · exact ⟨b_ "p.q",by simp [menu],by kernel_rfl⟩
def pths : List Str := [b_ "/", b_ "/x", b_ "/x/", b_ "/x/y", b_ "/xy", b_ "/x/y/z.q", b_ "//", b_ "/-_.9", b_ "/x/y/"]
theorem ri (ns:List Int) (hl:ns.length≤63) (k:Int):∃ p∈pths,bY [.scr ns,.int k]=a_ (.ok (.str p)):=by
 obtain ⟨d,h0,h1,hd⟩:=aL ns hl k 9 (by omega)
 have e:bY [.scr ns,.int k]=(match cg (bnd (match ae [.scr ns,.int k,.int 9] with | some (.ok d)=>(a_ (.ok d):Option (Rs Dv)) | _=>ck) fun i=>ixD (.lst (pths.map Dv.str)) i) fun d=>a_ (.rt d) with
  | some (.nx _)=>a_ (.ok .non)
  | some (.rt d)=>a_ (.ok d)
  | _=>ck):=by kernel_rfl
 rw [e,hd]
 have hc:d=0∨d=1∨d=2∨d=3∨d=4∨d=5∨d=6∨d=7∨d=8:=by omega
 rcases hc with rfl | rfl | rfl | rfl | rfl | rfl | rfl | rfl | rfl
 · exact ⟨b_ "/",by simp [pths],by kernel_rfl⟩
 · exact ⟨b_ "/x",by simp [pths],by kernel_rfl⟩
 · exact ⟨b_ "/x/",by simp [pths],by kernel_rfl⟩
 · exact ⟨b_ "/x/y",by simp [pths],by kernel_rfl⟩
 · exact ⟨b_ "/xy",by simp [pths],by kernel_rfl⟩
 · exact ⟨b_ "/x/y/z.q",by simp [pths],by kernel_rfl⟩
 · exact ⟨b_ "//",by simp [pths],by kernel_rfl⟩
 · exact ⟨b_ "/-_.9", by simp [pths], by kernel_rfl⟩
 · exact ⟨b_ "/x/y/",by simp [pths],by kernel_rfl⟩
theorem jd (F:List Dv→Option (Rs Dv)) {f g k:FnE} {ρ:Ev} {a b c d:Dv} (h:f ρ=a_ (.ok a)) (h':g ρ=a_ (.ok b)) (h'':k ρ=a_ (.ok c)) (hF:F [a,b,c]=a_ (.ok d)):ag F 3 (aa f (aa g (aa k ah))) ρ=a_ (.ok d):=gq (am h (am h' (am h'' aI))) rfl hF
theorem tP (ns:List Int) (hl:ns.length≤63) (z:Int):∃ s h p O,h∈menu∧p∈pths∧(O=Dv.non∨∃ o∈menu,O=.str o)∧fw [.scr ns,.int z]=a_ (.ok (.tup [.bl s,.str h,.str p,O])):=by
 obtain ⟨d2,a0,a1,hd2⟩:=aL ns hl (z + 2) 3 (by omega)
 obtain ⟨o,ho,hn3⟩:=mv ns hl (z + 3)
 obtain ⟨d0,b0,b1,hd0⟩:=aL ns hl z 2 (by omega)
 obtain ⟨h,hh,hn1⟩:=mv ns hl (z + 1)
 obtain ⟨p,hp,hp4⟩:=ri ns hl (z + 4)
 have hO:∃ O,(O=Dv.non∨∃ o∈menu,O=.str o)∧ixD (.lst [.non,.str o,.str o]) (.int d2)=a_ (.ok O):=by
  have hc:d2=0∨d2=1∨d2=2:=by omega
  rcases hc with rfl | rfl | rfl
  · exact ⟨.non,.inl rfl,rfl⟩
  · exact ⟨.str o,.inr ⟨o,ho,rfl⟩,rfl⟩
  · exact ⟨.str o,.inr ⟨o,ho,rfl⟩,rfl⟩
 obtain ⟨O,hO,hix⟩:=hO
 refine ⟨(d0 == 0),h,p,O,hh,hp,hO,ei ?_⟩
 show dG [a_ (.scr ns),a_ (.int z),ck]=_
 unfold dG
 have e:f2 ixD (bW (aa (fC .non) (aa (ag aK 2 (aa (ac 0) (aa (f2 cB (ac 1) (fC (.int 3))) ah))) (aa (ag aK 2 (aa (ac 0) (aa (f2 cB (ac 1) (fC (.int 3))) ah))) ah)))) (ag ae 3 (aa (ac 0) (aa (f2 cB (ac 1) (fC (.int 2))) (aa (fC (.int 3)) ah)))) [a_ (.scr ns),a_ (.int z),ck]=a_ (.ok O):=by
  rw [bf (pR (am rfl (am (fN aK rfl rfl hn3) (am (fN aK rfl rfl hn3) aI))) (by show 3≤100000; decide)) (jd ae rfl rfl rfl hd2)]
  exact hix
 rw [aA (ρ':=[a_ (.scr ns),a_ (.int z),a_ O]) (bB e rfl)]
 refine di (lR (am ?_ (am (fN aK rfl rfl hn1) (am (fN bY rfl rfl hp4) (am rfl aI)))) (by show 4≤100000; decide))
 rw [bf (jd ae rfl rfl rfl hd0) rfl]
 rfl
abbrev bo (k:Bool):Option (Rs Dv):=a_ (.ok (.bl k))
def En:List Str:=menu
theorem nG {x y:Str} (h:seq x y=e_):x=y:=by
 unfold seq at h
 obtain ⟨⟨a⟩⟩:=x; obtain ⟨⟨b⟩⟩:=y
 simp at h
 rw [h]
theorem tQ (x:Str):seq x x=e_:=by unfold seq; simp
def okY:Option (Rs Dv)→Bool
 | some (.ok (.bl e_))=>e_
 | _=>f_
theorem iW {o:Option (Rs Dv)} (h:okY o=e_):o=a_ (.ok (.bl e_)):=by
 unfold okY at h; split at h
 · rfl
 · cases h
def okB:Option (Rs Dv)→Bool
 | some (.ok (.bl _))=>e_
 | _=>f_
theorem AN {o:Option (Rs Dv)} (h:okB o=e_):∃ k,o=bo k:=by
 unfold okB at h; split at h
 · exact ⟨_,rfl⟩
 · cases h
def okF:Option (Rs Dv)→Bool
 | some (.ok (.bl f_))=>e_
 | _=>f_
def nms:List Str:=[b_ "n",b_ "m-1",b_ "safe-a",b_ "N_2"]
def wts:List Str:=[b_ "5",b_ "",b_ "a!b~"]
theorem AO:(nms.all fun n=>okY (bT [.str n]))=e_:=by kernel_rfl
theorem AQ:(wts.all fun n=>okY (dF [.str n]))=e_:=by kernel_rfl
theorem AR:(En.all fun n=>okY (ba [.str n]))=e_:=by kernel_rfl
theorem AS:(pths.all fun n=>okY (cr [.str n]))=e_:=by kernel_rfl
theorem EW {n:Str} (h:n∈nms):bT [.str n]=bo e_:=iW (bg (p:=fun n=>okY (bT [.str n])) AO h)
theorem EY {n:Str} (h:n∈wts):dF [.str n]=bo e_:=iW (bg (p:=fun n=>okY (dF [.str n])) AQ h)
theorem Eo {n:Str} (h:n∈En):ba [.str n]=bo e_:=iW (bg (p:=fun n=>okY (ba [.str n])) AR h)
theorem EZ {n:Str} (h:n∈pths):cr [.str n]=bo e_:=iW (bg (p:=fun n=>okY (cr [.str n])) AS h)
theorem me {h:Str} (q:h∈menu):h∈En:=q
theorem ly {l:List Dv} {d:Int} (h0:0≤d) (h1:d < l.length):∃ x∈l,ixD (.lst l) (.int d)=a_ (.ok x):=by
 have h2:d.toNat < l.length:=by omega
 refine ⟨l[d.toNat],KC h2,?_⟩
 show (match atD l d with | some d=>_ | none=>_)=_
 unfold atD
 rw [if_pos h0,xy h2]
theorem AT {f:FnE} {ρ:Ev} {d:Dv} (h:f ρ=a_ (.ok d)):aC f ρ=a_ (.rt d):=by unfold aC; rw [h]; rfl
theorem rj {a b:FnB} {ρ:Ev} {x y:Bool} (ha:a ρ=a_ (.ok x)) (hb:b ρ=a_ (.ok y)):bOr a b ρ=a_ (.ok (x || y)):=by
 unfold bOr; rw [ha]; cases x
 · exact hb
 · rfl
theorem Dt (i:Int):aV [.int i]=bo (t_ (0≤i) && t_ (i≤9999)):=by
 have e:bp [.int i,.int 0,.int 9999]=bo (t_ (0≤i) && t_ (i≤9999)):=by
  by_cases h0:0≤i
  · simp [bp,aY,bn,aD,sq,aX,aC,cg,bnd,bOr,bL,fB,toB,ac,f1,f2,dt,dh,bh,cM,leX,h0]
  · simp [bp,aY,bn,aD,sq,aX,aC,cg,bnd,bOr,bL,fB,toB,ac,f1,f2,dt,dh,bh,cM,leX,h0]
 simp [aV,aY,dO,aC,cg,bnd,ag,aa,ah,ac,fC,e]
theorem tR {i:Int} (h0:0≤i) (h1:i≤9999):aV [.int i]=bo e_:=by
 rw [Dt]; simp [h0,h1]
def Mo (u:Dv):Prop:=u=.non∨∃ i:Int,0≤i∧i≤9999∧u=.int i
theorem AU {u:Dv} (h:Mo u):aJ [u]=bo e_:=by
 rcases h with rfl | ⟨i,h0,h1,rfl⟩
 · simp [aJ,aY,aW,aC,cg,bnd,toB,ac,fC,f2,vOr,isN]
 · simp [aJ,aY,aW,aC,cg,bnd,toB,ag,aa,ah,ac,fC,f2,vOr,isN,tR h0 h1]
theorem wT {R:Str} (h:R=b_ "any"∨R=b_ "near"):gT [.str R]=bo e_∧∃ r,eqX (.str R) (.str "any")=bo r∧eqX (.str R) (.str "near")=bo (!r):=by
 rcases h with rfl | rfl
 · exact ⟨by kernel_rfl,e_,by kernel_rfl,by kernel_rfl⟩
 · exact ⟨by kernel_rfl,f_,by kernel_rfl,by kernel_rfl⟩
structure aO where
 nm:Str
 w:Str
 house:Str
 ex:Bool
 path:Str
 ends:Option Int
 S:Bool
 R:Str
 md:Int
 us:Int
deriving DecidableEq
def eO:Option Int→Dv
 | none=>.non
 | some i=>.int i
def enc (n:aO):Dv:=.tup [.str n.nm,.str n.w,.str n.house,.bl n.ex,.str n.path,eO n.ends,.bl n.S,.str n.R,.int n.md,.int n.us]
def ek (n:aO):Dv:=.tup [.str n.nm,.str n.house,.str n.path]
def key (n:aO):List Str:=[n.nm,n.house,n.path]
structure Good (n:aO):Prop where
 nm:n.nm∈nms
 w:n.w∈wts
 house:n.house∈En
 path:n.path∈pths
 R:n.R=b_ "any"∨n.R=b_ "near"
 ends:∀ i,n.ends=a_ i→0≤i∧i≤59
 mk0:0≤n.md
 mu:n.md≤n.us
 us:n.us≤9999
theorem Du {n:aO} (g:Good n):Mo (eO n.ends):=by
 cases h:n.ends with
 | none=>exact .inl rfl
 | some i=>exact .inr ⟨i,(g.ends i h).1,by have:=(g.ends i h).2; omega,rfl⟩
theorem AV {n:aO} (g:Good n):da [enc n]=bo e_:=by
 have e0:bw [enc n,.int 10]=bo e_:=by kernel_rfl
 have e1:=tR g.mk0 (by have:=g.mu; have:=g.us; omega)
 have e2:=tR (Int.le_trans g.mk0 g.mu) (by have:=g.us; omega)
 have e3:aJ [eO n.ends]=bo e_:=AU (Du g)
 unfold enc at e0 ⊢
 simp [da,aY,gA,aD,sq,aX,aC,cg,bnd,bOr,bL,fB,toB,ag,aa,ah,ac,fC,f1,f2,ixD,atD,bW,fB1,dh,bh,e0,e1,e2,EW g.nm,EY g.w,Eo g.house,EZ g.path,e3,(wT g.R).1,kc,iB,leX,g.mu]
def signs0:List Str:=nms ++ (wts ++ (En ++ (pths ++ [b_ "any",b_ "near"])))
theorem wU:(signs0.all fun x=>Gm (.str x))=e_:=by kernel_rfl
theorem lz {x:Str} (h:x∈signs0):Gm (.str x)=e_:=bg (p:=fun x=>Gm (.str x)) wU h
theorem Dw (o:Option Int):It1 0 (eO o):=by cases o; exact AJ; exact rh
theorem Good.sR {n:aO} (g:Good n):n.R∈signs0:=by
 unfold signs0
 rcases g.R with h | h <;> rw [h] <;> simp
theorem nH {n:aO} (g:Good n):It1 1 (enc n):=by
 refine rg (k:=0) fun d hd=>?_
 simp only [FB,Gx,or_false] at hd
 rcases hd with rfl | rfl | rfl | rfl | rfl | rfl | rfl | rfl | rfl | rfl
 · exact hX (lz (by simp [signs0,g.nm]))
 · exact hX (lz (by simp [signs0,g.w]))
 · exact hX (lz (by simp [signs0,g.house]))
 · exact AI
 · exact hX (lz (by simp [signs0,g.path]))
 · exact Dw _
 · exact AI
 · exact hX (lz g.sR)
 · exact rh
 · exact rh
theorem AW {n:aO} (g:Good n):It1 1 (ek n):=by
 refine rg (k:=0) fun d hd=>?_
 simp only [FB,Gx,or_false] at hd
 rcases hd with rfl | rfl | rfl
 · exact hX (lz (by simp [signs0,g.nm]))
 · exact hX (lz (by simp [signs0,g.house]))
 · exact hX (lz (by simp [signs0,g.path]))
theorem AX (a b:aO):Ge (cy (ek a)) (cy (ek b))=t_ (key a=key b):=by
 rw [Gp]
 simp [ek,key,cy,toPys,Ge,Hb]
theorem AY (a b:Option Int):Ge (cy (eO a)) (cy (eO b))=t_ (a=b):=by
 cases a <;> cases b <;> simp [eO,cy,Ge]
 rw [Gp]; simp
theorem wV (a b:aO):Ge (cy (enc a)) (cy (enc b))=t_ (a=b):=by
 rw [Gp]
 have e:=AY a.ends b.ends
 cases a; cases b
 simp [enc,cy,toPys,Ge,Hb,e]
theorem Dx {a b:aO} (ga:Good a) (gb:Good b):eqX (ek a) (ek b)=bo (t_ (key a=key b))∧neX (ek a) (ek b)=bo (!t_ (key a=key b)):=by
 have h1:=(AW ga).okP (by omega)
 have h2:=(AW gb).okP (by omega)
 have h3:=AX a b
 have h0:eqS (ek a) (ek b)=ck:=rfl
 constructor
 · unfold eqX; rw [h0,h1,h2,h3]; rfl
 · unfold neX; rw [h0,h1,h2,h3]; rfl
def lA (n:aO) (now:Int):Bool:=match n.ends with
 | none=>f_
 | some i=>t_ (i≤now)
def ej (js:List aO):Dv:=.tup (js.map enc)
structure Jar (js:List aO):Prop where
 g:∀ n∈js,Good n
 s:∀ i (h:i + 1 < js.length),js[i].md≤js[i + 1].md
 k:(js.map key).Nodup
 l:js.length≤18
theorem rn {α β:Type} {o:Option (Rs α)} {a:α} {k:α→Option (Rs β)} (h:o=a_ (.ok a)):bnd o k=k a:=by rw [h]; rfl
theorem ka:∀ (n:Nat) (lo:Int),rng lo n=(pi n).map fun i:Nat=>Dv.int (lo + (i:Int))
 | 0,lo=>rfl
 | n + 1,lo=>by
  rw [KY]
  show Dv.int lo :: rng (lo + 1) n=_
  rw [ka n (lo + 1)]
  simp only [FV,Io]
  congr 1
  · simp
  · congr 1
    funext i
    simp only [MY]
    congr 1
    omega
theorem ro {f g:iZ} {ρ ρ':Ev} {ds ds':List Dv} (h:f ρ ds=a_ (.nx ρ' ds')):fQ f g ρ ds=g ρ' ds':=by unfold fQ; rw [h]
theorem mw {xs:List Dv} {i:Nat} {ρ:Ev} (h:ρ[i]?=a_ (a_ (.lst xs))):cF (ac i) ρ=a_ (.ok xs):=by
 unfold cF ac
 rw [h]
 rfl
theorem jA {js:List aO} {i:Nat} {ρ:Ev} (h:ρ[i]?=a_ (a_ (ej js))):cF (ac i) ρ=a_ (.ok (js.map enc)):=by
 unfold cF ac
 rw [h]
 rfl
theorem mx {xs:List aO} (hg:∀ o∈xs,Good o):It1 2 (.lst (xs.map enc)):=AH fun d hd=>by
 obtain ⟨x,hx,rfl⟩:=G0.mp hd
 exact nH (hg x hx)
theorem wW {xs:List aO} (hg:∀ o∈xs,Good o):It1 2 (ej xs):=rg fun d hd=>by
 obtain ⟨x,hx,rfl⟩:=G0.mp hd
 exact nH (hg x hx)
theorem nil_eq {xs:List aO} (hg:∀ o∈xs,Good o):eqX (.lst (xs.map enc)) (.lst [])=bo xs.isEmpty:=by
 cases xs with
 | nil=>kernel_rfl
 | cons o rest =>
  have i2:=(mx hg).okP (by omega)
  have i3:okP (.lst [])=e_:=by kernel_rfl
  unfold eqX
  rw [show eqS (.lst ((o :: rest).map enc)) (.lst [])=ck from rfl,i2,i3]
  simp [cy,toPys,Ge,Hb]
theorem lB:∀ l:List Int,imms (l.map Dv.int)=e_
 | []=>rfl
 | i :: l=>by show (imm (.int i) && imms (l.map Dv.int))=e_; rw [lB l]; rfl
theorem rq (a b:Int):bM (.int a) (.int b)=a_ (.ok (.int (a + b))):=rfl
structure JI (B:Nat) (js:List aO) (now:Int):Prop where
 g:∀ n∈js,Good n
 s:js.Pairwise fun a b=>a.md≤b.md
 k:(js.map key).Nodup
 l:js.length≤B
 n0:0≤now
 n1:now≤3 * B
 m:∀ n∈js,n.md≤now
theorem JI.keep {B:Nat} {js:List aO} {now d:Int} (J:JI B js now) (h0:0≤d) (h1:d < 4):JI (B + 1) js (now + d) :=
 ⟨J.g,J.s,J.k,by have:=J.l; omega,by have:=J.n0; omega,by have:=J.n1; omega,fun n hn=>by have:=J.m n hn; omega⟩
theorem JI.add {B:Nat} {js:List aO} {now d:Int} {n:aO} (J:JI B js now) (h0:0≤d) (h1:d < 4) (g:Good n) (hm:n.md=now + d) (hf:js.filter (fun o=>t_ (key o=key n))=[]):JI (B + 1) (js ++ [n]) (now + d):=by
 have hk:∀ o∈js,key o≠key n:=fun o ho e=>by
  have:o∈js.filter (fun o=>t_ (key o=key n)):=Gj.mpr ⟨ho,by simp [e]⟩
  rw [hf] at this; cases this
 refine ⟨fun x hx=>?_,?_,?_,by have:=J.l; simp; omega,by have:=J.n0; omega,by have:=J.n1; omega,fun x hx=>?_⟩
 · rcases Ga.mp hx with h | h
   · exact J.g x h
   · rw [GG.mp h]; exact g
 · refine List.pairwise_append.mpr ⟨J.s,List.pairwise_singleton ..,fun a ha b hb=>?_⟩
   rw [GG.mp hb,hm]
   have:=J.m a ha
   omega
 · rw [HX]
   refine List.nodup_append.mpr ⟨J.k,by simp,fun a ha b hb e=>?_⟩
   obtain ⟨o,ho,rfl⟩:=G0.mp ha
   simp only [FV,List.map_nil,GG] at hb
   exact hk o ho (e.trans hb)
 · rcases Ga.mp hx with h | h
   · have:=J.m x h; omega
   · rw [GG.mp h,hm]; omega
theorem JI.jar {B:Nat} {js:List aO} {now:Int} (J:JI B js now) (hB:B≤18):Jar js :=
 ⟨J.g,fun i h=>JX.mp J.s i (i + 1) (by omega) h (by omega),J.k,by have:=J.l; omega⟩
def jb (ns:List Int) (z m now:Int):Ev:=[a_ (.scr ns),a_ (.int z),a_ (.int m),ck,a_ (.int now),ck,ck,ck,ck,ck,ck,ck,ck,ck,ck,ck]
def cJ:FnB:=(fB (f2 eqX (aN [("_law_note",15)] (cF (ac 3)) (a_ (fB (f2 eqX (ci (aa (f2 ixD (ac 0) (fC (.int 0))) (aa (f2 ixD (ac 0) (fC (.int 2))) (aa (f2 ixD (ac 0) (fC (.int 4))) ah)))) (ci (aa (f2 ixD (ac 1) (fC (.int 0))) (aa (f2 ixD (ac 1) (fC (.int 2))) (aa (f2 ixD (ac 1) (fC (.int 4))) ah))))))) (ac 0)) (bW ah)))
theorem Dy {js:List aO} {n:aO} {ρ:Ev} (hg:∀ o∈js,Good o) (gn:Good n) (hl:js.length≤18) (h3:ρ[3]?=a_ (a_ (.lst (js.map enc)))) (h15:ρ[15]?=a_ (a_ (enc n))):cJ ρ=a_ (.ok (js.filter (fun o=>t_ (key o=key n))).isEmpty):=by
 have hc:nZ [("_law_note",15)] ρ=[ck,a_ (enc n)]:=by simp [nZ,h15]
 have e1:=iV (cs:=[("_law_note",15)]) (src:=cF (ac 3)) (tst:=(fB (f2 eqX (ci (aa (f2 ixD (ac 0) (fC (.int 0))) (aa (f2 ixD (ac 0) (fC (.int 2))) (aa (f2 ixD (ac 0) (fC (.int 4))) ah)))) (ci (aa (f2 ixD (ac 1) (fC (.int 0))) (aa (f2 ixD (ac 1) (fC (.int 2))) (aa (f2 ixD (ac 1) (fC (.int 4))) ah))))))) (elt:=ac 0) (ρ:=ρ) enc (fun o=>t_ (key o=key n)) enc (mw h3) (by omega) fun o ho=>⟨by
  rw [hc]
  exact cW ((bf (x:=ek o) (y:=ek n) rfl rfl).trans (Dx (hg o ho) gn).1),by rw [hc]; rfl⟩
 exact cW ((bf e1 rfl).trans (nil_eq fun o ho=>hg o (Gj.mp ho).1))
theorem rA (ns:List Int) (hl:ns.length≤63) (z m now k:Int) {B:Nat} {js:List aO} (J:JI B js now) (hB:B≤10) :
 ∃ ρ' js' now',aU ((jb ns z m now).set 5 (a_ (.int k))) (js.map enc)=a_ (.nx ρ' (js'.map enc))∧fgt [5,6,7,8,9,10,11,12,13,14,15] ρ'=jb ns z m now'∧JI (B + 1) js' now':=by
 obtain ⟨here,hh⟩:∃ here,here=z + 1 + 14 * k:=⟨_,rfl⟩
 obtain ⟨d0,a0,b0,e0⟩:=aL ns hl here 4 (by omega)
 obtain ⟨d1,a1,b1,e1⟩:=aL ns hl (here + 1) 4 (by omega)
 obtain ⟨d2,a2,b2,e2⟩:=aL ns hl (here + 2) 3 (by omega)
 obtain ⟨d4,a4,b4,e4⟩:=aL ns hl (here + 4) 2 (by omega)
 obtain ⟨d6,a6,b6,e6⟩:=aL ns hl (here + 6) 2 (by omega)
 obtain ⟨d7,a7,b7,e7⟩:=aL ns hl (here + 7) 60 (by omega)
 obtain ⟨d8,a8,b8,e8⟩:=aL ns hl (here + 8) 2 (by omega)
 obtain ⟨d9,a9,b9,e9⟩:=aL ns hl (here + 9) 3 (by omega)
 obtain ⟨d10,a10,b10,e10⟩:=aL ns hl (here + 10) 5 (by omega)
 obtain ⟨n3,hn3,e3⟩:=mv ns hl (here + 3)
 obtain ⟨p5,hp5,e5⟩:=ri ns hl (here + 5)
 obtain ⟨x1,m1,i1⟩:=ly (l:=[.str "n",.str "m-1",.str "safe-a",.str "N_2"]) a1 b1
 obtain ⟨x2,m2,i2⟩:=ly (l:=[.str "5",.str "",.str "a!b~"]) a2 b2
 obtain ⟨x6,m6,i6⟩:=ly (l:=[.non,.int d7]) a6 b6
 obtain ⟨x9,m9,i9⟩:=ly (l:=[.str "any",.str "any",.str "near"]) a9 b9
 have g1:∃ nm∈nms,x1=.str nm:=by
  simp only [FB,Gx,or_false] at m1
  rcases m1 with rfl | rfl | rfl | rfl <;> exact ⟨_,by simp [nms],rfl⟩
 have g2:∃ nm∈wts,x2=.str nm:=by
  simp only [FB,Gx,or_false] at m2
  rcases m2 with rfl | rfl | rfl <;> exact ⟨_,by simp [wts],rfl⟩
 have g6:∃ o:Option Int,(∀ i,o=a_ i→0≤i∧i≤59)∧x6=eO o:=by
  simp only [FB,Gx,or_false] at m6
  rcases m6 with rfl | rfl
  · exact ⟨ck,by simp,rfl⟩
  · exact ⟨a_ d7,fun i hi=>by cases hi; omega,rfl⟩
 have g9:∃ R,(R=b_ "any"∨R=b_ "near")∧x9=.str R:=by
  simp only [FB,Gx,or_false] at m9
  rcases m9 with rfl | rfl | rfl
  · exact ⟨_,.inl rfl,rfl⟩
  · exact ⟨_,.inl rfl,rfl⟩
  · exact ⟨_,.inr rfl,rfl⟩
 obtain ⟨nm,hnm,rfl⟩:=g1
 obtain ⟨w,hw,rfl⟩:=g2
 obtain ⟨o,ho,rfl⟩:=g6
 obtain ⟨R,hR,rfl⟩:=g9
 let n:aO:=⟨nm,w,n3,d4 == 0,p5,o,d8 == 0,R,now + d0,now + d0 + d10⟩
 have q0:=J.n0
 have q1:=J.n1
 have gn:Good n:=⟨hnm,hw,me hn3,hp5,hR,ho,by show 0≤now + d0; omega,by show now + d0≤now + d0 + d10; omega,by show now + d0 + d10≤9999; omega⟩
 let E15:Ev:=[a_ (.scr ns),a_ (.int z),a_ (.int m),ck,a_ (.int (now + d0)),a_ (.int k),a_ (.int here),a_ (.str nm),a_ (.str w),a_ (eO o),a_ (.bl (d4 == 0)),a_ (.tup [.str nm,.str w,.str n3,.bl (d4 == 0),.str p5]),a_ (.str R),a_ (.bl (d8 == 0)),a_ (.int (now + d0 + d10)),a_ (enc n)]
 have hc:=Dy (ρ:=E15.set 3 (a_ (.lst (js.map enc)))) J.g gn (by have:=J.l; omega) rfl rfl
 have hmul:hW (.int 14) (.int k)=a_ (.ok (.int (14 * k))):=lw (.inl (by omega))
 have hrun:aU ((jb ns z m now).set 5 (a_ (.int k))) (js.map enc)=vY 3 cJ (xG (ac 15)) BA E15 (js.map enc):=by
  have eB:aU=(fQ (gs 6 (f2 bM (f2 bM (ac 1) (fC (.int 1))) (f2 hW (fC (.int 14)) (ac 5)))) (fQ (gs 4 (f2 bM (ac 4) (ag ae 3 (aa (ac 0) (aa (ac 6) (aa (fC (.int 4)) ah)))))) (fQ (gs 7 (f2 ixD (bW (aa (fC (.str "n")) (aa (fC (.str "m-1")) (aa (fC (.str "safe-a")) (aa (fC (.str "N_2")) ah))))) (ag ae 3 (aa (ac 0) (aa (f2 bM (ac 6) (fC (.int 1))) (aa (fC (.int 4)) ah)))))) (fQ (gs 8 (f2 ixD (bW (aa (fC (.str "5")) (aa (fC (.str "")) (aa (fC (.str "a!b~")) ah)))) (ag ae 3 (aa (ac 0) (aa (f2 bM (ac 6) (fC (.int 2))) (aa (fC (.int 3)) ah)))))) (fQ (gs 9 (f2 ixD (bW (aa (fC .non) (aa (ag ae 3 (aa (ac 0) (aa (f2 bM (ac 6) (fC (.int 7))) (aa (fC (.int 60)) ah)))) ah))) (ag ae 3 (aa (ac 0) (aa (f2 bM (ac 6) (fC (.int 6))) (aa (fC (.int 2)) ah)))))) (fQ (gs 10 (f2 eqX (ag ae 3 (aa (ac 0) (aa (f2 bM (ac 6) (fC (.int 4))) (aa (fC (.int 2)) ah)))) (fC (.int 0)))) (fQ (gs 11 (ci (aa (ac 7) (aa (ac 8) (aa (ag aK 2 (aa (ac 0) (aa (f2 bM (ac 6) (fC (.int 3))) ah))) (aa (ac 10) (aa (ag bY 2 (aa (ac 0) (aa (f2 bM (ac 6) (fC (.int 5))) ah))) ah))))))) (fQ (gs 12 (f2 ixD (bW (aa (fC (.str "any")) (aa (fC (.str "any")) (aa (fC (.str "near")) ah)))) (ag ae 3 (aa (ac 0) (aa (f2 bM (ac 6) (fC (.int 9))) (aa (fC (.int 3)) ah)))))) (fQ (gs 13 (f2 eqX (ag ae 3 (aa (ac 0) (aa (f2 bM (ac 6) (fC (.int 8))) (aa (fC (.int 2)) ah)))) (fC (.int 0)))) (fQ (gs 14 (f2 bM (ac 4) (ag ae 3 (aa (ac 0) (aa (f2 bM (ac 6) (fC (.int 10))) (aa (fC (.int 5)) ah)))))) (fQ (gs 15 (f2 bM (ac 11) (ci (aa (ac 9) (aa (ac 13) (aa (ac 12) (aa (ac 4) (aa (ac 14) ah)))))))) (vY 3 cJ (xG (ac 15)) BA)))))))))))):=rfl
  rw [eB]
  subst hh
  simp [jb,fQ,gs,xE,bnd,ag,aa,ah,ac,fC,f2,ci,bW,rq,hmul,e0,e1,e2,e3,e4,e5,e6,e7,e8,e9,e10,i1,i2,i6,i9,eqX,eqS,E15,enc,n]
  simp [bM]
 rw [hrun]
 cases hf:(js.filter (fun o=>t_ (key o=key n))) with
 | nil =>
  rw [hf] at hc
  refine ⟨E15,js ++ [n],now + d0,?_,rfl,J.add a0 b0 gn rfl hf⟩
  unfold vY
  rw [hc]
  show (if (js.map enc).length < 100000 then _ else _)=_
  rw [if_pos (by have:=J.l; simp; omega)]
  show a_ (Fo.nx _ (js.map enc ++ [enc n]))=_
  simp
 | cons c r =>
  rw [hf] at hc
  refine ⟨E15,js,now + d0,?_,rfl,J.keep a0 b0⟩
  unfold vY
  rw [hc]
  rfl
theorem nI (ns:List Int) (hl:ns.length≤63) (z m:Int):∀ (ks:List Int) (ρ:Ev) (now:Int) (B:Nat) (js:List aO),B + ks.length≤10→fgt [5,6,7,8,9,10,11,12,13,14,15] ρ=jb ns z m now→JI B js now →
 ∃ js' now',kL 5 [5,6,7,8,9,10,11,12,13,14,15] aU (ks.map Dv.int) ρ (js.map enc)=a_ (.nx (jb ns z m now') (js'.map enc))∧JI (B + ks.length) js' now'
 | [],ρ,now,B,js,_,hρ,J=>⟨js,now,by show a_ (Fo.nx _ _)=_; rw [hρ],J⟩
 | k :: ks,ρ,now,B,js,hb,hρ,J=>by
  simp only [Hc] at hb
  obtain ⟨ρ',js',now',e,hρ',J'⟩:=rA ns hl z m now k J (by omega)
  obtain ⟨js2,now2,e2,J2⟩:=nI ns hl z m ks ρ' now' (B + 1) js' (by omega) hρ' J'
  refine ⟨js2,now2,?_,by rw [Hc,show B + (ks.length + 1)=B + 1 + ks.length by omega]; exact J2⟩
  show (match aU ((fgt _ ρ).set 5 (a_ (.int k))) (js.map enc) with
   | some (.nx ρ' xs')=>kL 5 _ aU (ks.map Dv.int) ρ' xs'
   | o=>o)=_
  rw [hρ,e]
  exact e2
theorem AZ (ns:List Int) (hl:ns.length≤63) (z:Int) (m:Nat) (hm:m≤8):∃ js now,fz [.scr ns,.int z,.int m]=a_ (.ok (ej js))∧Jar js∧js.length≤m∧JI m js now:=by
 obtain ⟨d,a0,b0,e0⟩:=aL ns hl z (m + 1) (by omega)
 obtain ⟨c,rfl⟩:∃ c:Nat,d=(c:Int):=⟨d.toNat,by omega⟩
 have hr:iz [.int (c:Int)]=a_ (.ok (((pi c).map fun i:Nat=>(i:Int)).map Dv.int)):=by
  rw [uL (by omega),ka]
  simp
 obtain ⟨js,now,e,J⟩:=nI ns hl z m ((pi c).map fun i:Nat=>(i:Int)) (jb ns z m 0) 0 0 [] (by simp; omega) rfl ⟨by simp,Kg,by simp,by simp,by omega,by omega,by simp⟩
 have hlen:((pi c).map fun i:Nat=>(i:Int)).length=c:=by simp
 rw [hlen] at J
 have J5:=J.l
 refine ⟨js,now,?_,J.jar (by omega),by omega,⟨J.g,J.s,J.k,by omega,J.n0,by have:=J.n1; omega,J.m⟩⟩
 refine ei (d:=ej js) ?_
 show xH 3 ah _ [a_ (.scr ns),a_ (.int z),a_ (.int m),ck,ck,ck,ck,ck,ck,ck,ck,ck,ck,ck,ck,ck]=_
 have hsrc:(fun ρ=>bnd ((aa (ag ae 3 (aa (ac 0) (aa (ac 1) (aa (f2 bM (ac 2) (fC (.int 1))) ah)))) ah) ρ) iz) (jb ns z m 0)=a_ (.ok (((pi c).map fun i:Nat=>(i:Int)).map Dv.int)):=by
  have h:(aa (ag ae 3 (aa (ac 0) (aa (ac 1) (aa (f2 bM (ac 2) (fC (.int 1))) ah)))) ah) (jb ns z m 0)=a_ (.ok [.int (c:Int)]):=by
   simp [bnd,aa,ah,ag,fC,ac,f2,jb,rq,e0]
  exact (rn (k:=iz) h).trans hr
 have hfor:v6 5 [5,6,7,8,9,10,11,12,13,14,15] (fun ρ=>bnd ((aa (ag ae 3 (aa (ac 0) (aa (ac 1) (aa (f2 bM (ac 2) (fC (.int 1))) ah)))) ah) ρ) iz) aU (jb ns z m 0) []=a_ (.nx (jb ns z m now) (js.map enc)):=by
  unfold v6
  rw [hsrc]
  show (if imms (((pi c).map fun i:Nat=>(i:Int)).map Dv.int)=e_ then _ else ck)=_
  rw [if_pos (lB _)]
  exact e
 have hle:js.length≤100000:=by omega
 have hret:xF 3 (fB1 eK (aa (ac 3) ah)) (jb ns z m now) (js.map enc)=a_ (.rt (ej js)):=by
  unfold xF
  rw [fH (am (x:=.lst (js.map enc)) rfl aI)]
  rfl
 have hbody:(fQ (gs 4 (fC (.int 0))) (fQ (v6 5 [5,6,7,8,9,10,11,12,13,14,15] (fun ρ=>bnd ((aa (ag ae 3 (aa (ac 0) (aa (ac 1) (aa (f2 bM (ac 2) (fC (.int 1))) ah)))) ah) ρ) iz) aU) (xF 3 (fB1 eK (aa (ac 3) ah))))) [a_ (.scr ns),a_ (.int z),a_ (.int m),ck,ck,ck,ck,ck,ck,ck,ck,ck,ck,ck,ck,ck] []=a_ (.rt (ej js)):=by
  rw [ro (show gs 4 (fC (.int 0)) [a_ (.scr ns),a_ (.int z),a_ (.int m),ck,ck,ck,ck,ck,ck,ck,ck,ck,ck,ck,ck,ck] []=a_ (.nx (jb ns z m 0) []) from rfl)]
  rw [ro hfor]
  exact hret
 unfold xH
 show (if ([]:List Dv).length≤100000 then _ else ck)=_
 rw [if_pos (by simp)]
 exact (congrArg (fun o=>match o with | some (Fo.nx ρ' ds')=>a_ (Fl.nx (List.set ρ' 3 (a_ (Dv.lst ds')))) | some (Fo.rt d)=>a_ (Fl.rt d) | none=>ck) hbody).trans rfl
theorem A0 (n:aO):oE [enc n]=a_ (.ok (ek n)):=by simp [oE,aY,tM,aD,sq,aX,aC,dI,bq,br,cg,bnd,bOr,fG,bL,fB,toB,ag,aB,aa,ah,ac,fC,f1,f2,ixD,atD,vOr,dt,iy,fIf,ci,bW,fB1,fM,aS,cj,isN,gI,dh,bh,cx,cL,cM,enc,ek]
theorem lC:∀ js:List aO,iE (js.map ek)=a_ (js.map key)
 | []=>rfl
 | n :: js=>by
  show (match jr [.str n.nm,.str n.house,.str n.path],iE (js.map ek) with | some k,a_ ks=>a_ (k :: ks) | _,_=>ck)=_
  rw [lC js]
  rfl
theorem tU {js:List aO} (J:Jar js):bc [ej js]=bo e_:=by
 have e1:bj 1 [] (cF (ac 0)) (gN 0) ck (ag oE 1 (aa (ac 0) ah)) [a_ (ej js),ck]=a_ (.ok (.lst (js.map ek))) :=
  q8 enc ek (jA rfl) (by have:=J.l; omega) fun n hn=>og oE rfl (A0 n)
 have e2:iF [.lst (js.map ek)]=a_ (.ok (.int js.length)):=by
  show (match iE (js.map ek) with | some ks=>if ks.Nodup∧ks.length≤18 then (a_ (.ok (.int ks.length)):Option (Rs Dv)) else ck | none=>ck)=_
  rw [lC]
  dsimp only
  rw [if_pos ⟨J.k,by simpa using J.l⟩]
  simp
 simp only [bc,aY,bF]
 simp [aD,sq,br,cg,bnd,e1]
 simp [aC,f2,fB1,aa,ah,ac,bnd,cg,e2,dg,eqX,eqS]
theorem all_map {α:Type} (p:α→Bool) (l:List α):kc [.lst (l.map fun a=>Dv.bl (p a))]=bo (l.all p):=by
 unfold kc
 dsimp only
 rw [lu p l]
 dsimp only
 rw [List.all_map]
 rfl
theorem nJ {α:Type} (l:List α):kc [.lst (l.map fun _=>Dv.bl e_)]=bo e_:=by
 rw [all_map (fun _=>e_) l]
 simp
theorem wX {js:List aO} {i:Nat} (h:i < js.length):ixD (ej js) (.int i)=a_ (.ok (enc js[i])):=by
 show (match atD (js.map enc) (i:Int) with | some d=>_ | none=>_)=_
 unfold atD
 rw [if_pos (by omega)]
 simp [h]
theorem Ba (n:aO):ixD (enc n) (.int 8)=a_ (.ok (.int n.md)):=rfl
theorem Bb (js:List aO) (hl:js.length≤18):(fun ρ=>bnd ((aa (fC (.int 1)) (aa (fB1 dg (aa (ac 0) ah)) ah)) ρ) rM) [a_ (ej js)]=a_ (.ok ((pi (js.length - 1)).map fun i:Nat=>Dv.int (1 + (i:Int)))):=by
 have h:(aa (fC (.int 1)) (aa (fB1 dg (aa (ac 0) ah)) ah)) [a_ (ej js)]=a_ (.ok [.int 1,.int js.length]):=by
  simp [bnd,aa,ah,fB1,fC,ac,ej,dg]
 refine (rn (k:=rM) h).trans ?_
 rw [AG (by omega),ka,show ((js.length:Int) - 1).toNat=js.length - 1 by omega]
def Ep:FnE:=(f2 leX (f2 ixD (f2 ixD (ac 1) (f2 vw (ac 0) (fC (.int 1)))) (fC (.int 8))) (f2 ixD (f2 ixD (ac 1) (ac 0)) (fC (.int 8))))
theorem wY {js:List aO} (J:Jar js) {i:Nat} (hi':i + 1 < js.length):Ep [a_ (.int (1 + (i:Int))),a_ (ej js)]=a_ (.ok (.bl e_)):=by
 have hs:=J.s i hi'
 have h1:f2 ixD (ac 1) (f2 vw (ac 0) (fC (.int 1))) [a_ (.int (1 + (i:Int))),a_ (ej js)]=a_ (.ok (enc js[i])):=by
  have q:=wX (js:=js) (i:=i) (by omega)
  rw [show (i:Int)=1 + (i:Int) - 1 by omega] at q
  exact q
 have h2:f2 ixD (ac 1) (ac 0) [a_ (.int (1 + (i:Int))),a_ (ej js)]=a_ (.ok (enc js[i + 1])):=by
  have q:=wX (js:=js) (i:=i + 1) hi'
  rw [show ((i + 1:Nat):Int)=1 + (i:Int) by omega] at q
  exact q
 have h3:leX (.int js[i].md) (.int js[i + 1].md)=a_ (.ok (.bl e_)):=by simp [leX,hs]
 exact (bf ((bf h1 rfl).trans (Ba _)) ((bf h2 rfl).trans (Ba _))).trans h3
theorem Dz {js:List aO} (J:Jar js):aN [("notes",0)] (fun ρ=>bnd ((aa (fC (.int 1)) (aa (fB1 dg (aa (ac 0) ah)) ah)) ρ) rM) ck Ep [a_ (ej js)]=a_ (.ok (.lst ((pi (js.length - 1)).map fun _=>Dv.bl e_))) :=
 ef (fun i:Nat=>Dv.int (1 + (i:Int))) (fun _=>Dv.bl e_) (Bb js J.l) (by have:=J.l; rw [IZ]; omega) fun i hi=>wY J (by have:=Gr.mp hi; omega)
theorem wZ {js:List aO} (J:Jar js):de [ej js]=bo e_ :=
 ei (d:=.bl e_) (di ((fH (am (Dz J) aI)).trans (nJ _)))
theorem t_a {js:List aO} (J:Jar js):aN [] (cF (ac 0)) ck (ag da 1 (aa (ac 0) ah)) [a_ (ej js)]=a_ (.ok (.lst (js.map fun _=>Dv.bl e_))) :=
 ef enc (fun _=>Dv.bl e_) (jA rfl) (by have:=J.l; omega) fun n hn=>og da rfl (AV (J.g n hn))
theorem t_b {js:List aO} (J:Jar js):(bOr (bL (fB (f1 (dh cx) (ac 0)))) (fB (f2 gtD (fB1 dg (aa (ac 0) ah)) (fC (.int 20))))) [a_ (ej js)]=a_ (.ok f_):=by
 have e3:¬ (20 < (js.length:Int)):=by have:=J.l; omega
 simp [aD,sq,bOr,bL,fB,f1,f2,dh,cx,ac,bnd,toB,fB1,aa,ah,fC,ej,dg,Cj,e3]
theorem t_c {js:List aO} (J:Jar js):fB1 kc (aa (aN [] (cF (ac 0)) ck (ag da 1 (aa (ac 0) ah))) ah) [a_ (ej js)]=bo e_:=(fH (am (t_a J) aI)).trans (nJ js)
theorem t_d {js:List aO} (J:Jar js):fq [a_ (ej js)]=a_ (.rt (.bl e_)):=by
 unfold fq
 rw [aA (cG (t_b J))]
 rw [aA (cG (jN (k:=e_) (cW (t_c J))))]
 refine di ?_
 rw [uz (og de rfl (wZ J))]
 exact og bc rfl (tU J)
theorem Bc {js:List aO} (J:Jar js):dP [ej js]=bo e_:=ei (d:=.bl e_) (t_d J)
def rules:List Dv:=[.str "!w.ck",.str "*.ck",.str "*.uk",.str "a.b",.str "b",.str "c.uk",.str "q",.str "uk"]
def gZ:List Dv→List (List Dv)
 | []=>[[]]
 | x :: r=>(gZ r).map (x :: ·) ++ gZ r
def w6:FnB:=fB (f2 eqX (ag ae 3 (aa (ac 2) (aa (f2 cB (ac 3) (ac 0)) (aa (fC (.int 2)) ah)))) (fC (.int 0)))
theorem uM (ns:List Int) (hl:ns.length≤63) (z:Int):∀ (l:List Dv) (k:Nat),∃ t∈gZ l,hZ (gP 0 1) (a_ w6) (ac 1) [ck,ck,a_ (.scr ns),a_ (.int z)] (gJ k l)=a_ t
 | [],k=>⟨[],by simp [gZ],rfl⟩
 | x :: r,k=>by
  obtain ⟨t,ht,e⟩:=uM ns hl z r (k + 1)
  obtain ⟨d,h0,h1,hd⟩:=aL ns hl (z + k) 2 (by omega)
  have ht':w6 [a_ (.int k),a_ x,a_ (.scr ns),a_ (.int z)]=bnd (bnd (okO (ae [.scr ns,.int (z + k),.int 2])) fun x=>eqX x (.int 0)) toB:=by kernel_rfl
  have hu:hZ (gP 0 1) (a_ w6) (ac 1) [ck,ck,a_ (.scr ns),a_ (.int z)] (gJ k (x :: r))=(match w6 [a_ (.int k),a_ x,a_ (.scr ns),a_ (.int z)] with
   | some (.ok e_)=>(match hZ (gP 0 1) (a_ w6) (ac 1) [ck,ck,a_ (.scr ns),a_ (.int z)] (gJ (k + 1) r) with | some ys=>a_ (x :: ys) | none=>ck)
   | some (.ok f_)=>hZ (gP 0 1) (a_ w6) (ac 1) [ck,ck,a_ (.scr ns),a_ (.int z)] (gJ (k + 1) r)
   | _=>ck):=by kernel_rfl
  rw [hu,ht',hd,e]
  have hc:d=0∨d=1:=by omega
  rcases hc with rfl | rfl
  · exact ⟨x :: t,by simp [gZ,ht],by kernel_rfl⟩
  · exact ⟨t,by simp [gZ,ht],by kernel_rfl⟩
theorem kb:∀ {l t:List Dv},t∈gZ l→t.length≤l.length
 | [],t,h=>by simp [gZ] at h; simp [h]
 | x :: r,t,h=>by
  simp only [gZ,Ga,G0] at h
  rcases h with ⟨u,hu,rfl⟩ | h
  · have:=kb hu; simp; omega
  · have:=kb h; simp; omega
theorem nK (ns:List Int) (hl:ns.length≤63):∃ t∈gZ rules,bt [.scr ns,.int 0]=a_ (.ok (.tup t)):=by
 obtain ⟨t,ht,e⟩:=uM ns hl 0 rules 0
 refine ⟨t,ht,?_⟩
 have hle:t.length≤100000:=by have:=kb ht; have:rules.length=8:=rfl; omega
 have hu:bt [.scr ns,.int 0]=(match cg (bnd (bnd (match hZ (gP 0 1) (a_ w6) (ac 1) [ck,ck,a_ (.scr ns),a_ (.int 0)] (gJ 0 rules) with
  | some ys=>if ys.length≤100000∧(gJ 0 rules).length≤100000 then (a_ (.ok (.lst ys)):Option (Rs Dv)) else ck
  | none=>ck) fun x=>bnd (a_ (.ok [])) fun ys=>a_ (.ok (x :: ys))) eK) fun d=>a_ (.rt d) with
  | some (.nx _)=>a_ (.ok .non)
  | some (.rt d)=>a_ (.ok d)
  | _=>ck):=by kernel_rfl
 rw [hu,e]
 dsimp only
 rw [if_pos ⟨hle,by decide⟩]
 rfl
end G
namespace G
open PySem PySem.Spec PyProof.Rows L2 FD TS
def EA:List Str:=menu ++ [b_ "z.a.b",b_ "z.b",b_ "z.x.a.b",b_ "z.y.x.a.b",b_ "z.c.uk",b_ "z.uk",b_ "z.d.c.uk",b_ "z.e.d.c.uk",b_ "z.w.ck",b_ "z.v.w.ck",b_ "z.ck",b_ "z.g-1.a.b",b_ "z.7.b",b_ "z.p.q"]
def pA : List Str := pths ++ [b_ "//y", b_ "/x/y", b_ "/x//y", b_ "/x/y/y", b_ "/xy/y", b_ "/x/y/z.q/y", b_ "///y", b_ "/-_.9/y", b_ "/x/y//y"]
theorem Er {h:Str} (q:h∈menu):h∈EA:=FH _ q
theorem Es {h:Str} (q:h∈pths):h∈pA:=FH _ q
def jn (l:List Str):Option (Rs Dv)→Bool
 | some (.ok (.str x))=>l.any (seq x)
 | _=>f_
theorem w9 {l:List Str} {o:Option (Rs Dv)} (h:jn l o=e_):∃ x∈l,o=a_ (.ok (.str x)):=by
 unfold jn at h
 split at h
 · rename_i x
   obtain ⟨y,hy,e⟩:=KG.mp h
   exact ⟨y,hy,by rw [nG e]⟩
 · cases h
theorem Bd:(menu.all fun h=>jn EA (bM (.str "z.") (.str h)) && jn EA (bM (.str "") (.str h)))=e_:=by kernel_rfl
theorem Be:(pths.all fun h=>jn pA (bM (.str h) (.str "/y")))=e_:=by kernel_rfl
theorem xb:(EA.all fun n=>okY (ba [.str n]))=e_:=by kernel_rfl
theorem xf:(pA.all fun n=>okY (cr [.str n]))=e_:=by kernel_rfl
def jB (t:List Dv) (h:Str):Bool:=match bS [.tup t,.str h],cU [.tup t,.str h] with
 | some (.ok .non),a_ (.ok .non)=>e_
 | some (.ok (.str z)),a_ (.ok (.str y))=>seq z y && Gm (.str z)
 | _,_=>f_
def bV:Nat→List (List Dv)
 | 0=>gZ rules
 | k + 1=>(bV k).drop 16
theorem mB {α:Type} {l:List α} {p:α→Bool} (n:Nat) (h1:(l.take n).all p=e_) (h2:(l.drop n).all p=e_):l.all p=e_:=by
 rw [← List.take_append_drop n l,List.all_append,h1,h2]; rfl
theorem E6:((bV 0).take 16).all (fun t=>EA.all (jB t))=e_:=by kernel_rfl
theorem E7:((bV 1).take 16).all (fun t=>EA.all (jB t))=e_:=by kernel_rfl
theorem Fa:((bV 2).take 16).all (fun t=>EA.all (jB t))=e_:=by kernel_rfl
theorem Fb:((bV 3).take 16).all (fun t=>EA.all (jB t))=e_:=by kernel_rfl
theorem Fc:((bV 4).take 16).all (fun t=>EA.all (jB t))=e_:=by kernel_rfl
theorem Fd:((bV 5).take 16).all (fun t=>EA.all (jB t))=e_:=by kernel_rfl
theorem Fe:((bV 6).take 16).all (fun t=>EA.all (jB t))=e_:=by kernel_rfl
theorem Ff:((bV 7).take 16).all (fun t=>EA.all (jB t))=e_:=by kernel_rfl
theorem Fg:((bV 8).take 16).all (fun t=>EA.all (jB t))=e_:=by kernel_rfl
theorem Fh:((bV 9).take 16).all (fun t=>EA.all (jB t))=e_:=by kernel_rfl
theorem DA:((bV 10).take 16).all (fun t=>EA.all (jB t))=e_:=by kernel_rfl
theorem DB:((bV 11).take 16).all (fun t=>EA.all (jB t))=e_:=by kernel_rfl
theorem DC:((bV 12).take 16).all (fun t=>EA.all (jB t))=e_:=by kernel_rfl
theorem DD:((bV 13).take 16).all (fun t=>EA.all (jB t))=e_:=by kernel_rfl
theorem DE:((bV 14).take 16).all (fun t=>EA.all (jB t))=e_:=by kernel_rfl
theorem DF:((bV 15).take 16).all (fun t=>EA.all (jB t))=e_:=by kernel_rfl
theorem Bf:(gZ rules).all (fun t=>EA.all (jB t))=e_:=mB (l:=bV 0) 16 E6 (mB (l:=bV 1) 16 E7 (mB (l:=bV 2) 16 Fa (mB (l:=bV 3) 16 Fb (mB (l:=bV 4) 16 Fc (mB (l:=bV 5) 16 Fd (mB (l:=bV 6) 16 Fe (mB (l:=bV 7) 16 Ff (mB (l:=bV 8) 16 Fg (mB (l:=bV 9) 16 Fh (mB (l:=bV 10) 16 DA (mB (l:=bV 11) 16 DB (mB (l:=bV 12) 16 DC (mB (l:=bV 13) 16 DD (mB (l:=bV 14) 16 DE DF))))))))))))))
theorem uN {t:List Dv} (ht:t∈gZ rules) {h:Str} (hh:h∈EA):∃ o,bS [.tup t,.str h]=a_ (.ok o)∧cU [.tup t,.str h]=a_ (.ok o)∧(o=.non∨∃ z,o=.str z∧Gm (.str z)=e_):=by
 have q:=bg (p:=jB t) (bg (p:=fun t=>EA.all (jB t)) Bf ht) hh
 unfold jB at q
 split at q
 · rename_i e e'
   exact ⟨_,e,e',.inl rfl⟩
 · rename_i z y e e'
   rw [l_] at q
   have:=nG q.1
   subst this
   exact ⟨_,e,e',.inr ⟨_,rfl,q.2⟩⟩
 · cases q
structure Ask where
 s:Bool
 h:Str
 p:Str
 O:Dv
def bP (a:Ask):Dv:=.tup [.bl a.s,.str a.h,.str a.p,a.O]
structure iX (a:Ask):Prop where
 h:a.h∈EA
 p:a.p∈pA
 o:a.O=.non∨∃ o∈menu,a.O=.str o
def no:FnS:=aC (fC (.bl f_))
def sk:FnS:=(fun ρ=>a_ (.nx ρ))
theorem rB {c:FnB} {rest:FnS} {ρ:Ev} {b:Bool} (hc:c ρ=a_ (.ok b)):aD (aX c no sk) rest ρ=if b=e_ then a_ (.rt (.bl f_)) else rest ρ:=by
 unfold aD aX
 rw [hc]
 cases b <;> rfl
theorem tV (n:aO) (k:Int):cC [enc n,.int k]=bo (lA n k):=by
 cases h:n.ends <;> simp [cC,aY,dL,aD,sq,aX,aC,dI,bq,br,cg,bnd,bOr,fG,bL,fB,toB,ag,aB,aa,ah,ac,fC,f1,f2,ixD,atD,vOr,dt,iy,fIf,ci,bW,fB1,fM,aS,cj,isN,gI,dh,bh,cx,cL,cM,enc,eO,lA,h,leX]
theorem Bg {t:List Dv} (ht:t∈gZ rules) {a:Ask} (g:iX a):∃ k,az [.tup t,bP a]=bo k∧aR [.tup t,bP a]=bo k:=by
 obtain ⟨s,h,p,O⟩:=a
 have ha:h∈EA:=g.h
 have ho:O=.non∨∃ o∈menu,O=.str o:=g.o
 rcases ho with rfl | ⟨o,ho,rfl⟩
 · exact ⟨e_,by simp [az,aY,aF,bP,aD,sq,aX,aC,dI,bq,br,cg,bnd,bOr,fG,bL,fB,toB,ag,aB,aa,ah,ac,fC,f1,f2,ixD,atD,vOr,dt,iy,fIf,ci,bW,fB1,fM,aS,cj,isN,gI,dh,bh,cx,cL,cM],by simp [aR,aY,bJ,bP,aD,sq,aX,aC,dI,bq,br,cg,bnd,bOr,fG,bL,fB,toB,ag,aB,aa,ah,ac,fC,f1,f2,ixD,atD,vOr,dt,iy,fIf,ci,bW,fB1,fM,aS,cj,isN,gI,dh,bh,cx,cL,cM]⟩
 · obtain ⟨o1,e1,f1',h1⟩:=uN ht ha
   obtain ⟨o2,e2,f2',h2⟩:=uN ht (Er ho)
   cases q:seq o h with
   | true=>exact ⟨e_,by simp [az,aY,aF,bP,aD,sq,aX,aC,dI,bq,br,cg,bnd,bOr,fG,bL,fB,toB,ag,aB,aa,ah,ac,fC,f1,f2,ixD,atD,vOr,dt,iy,fIf,ci,bW,fB1,fM,aS,cj,isN,gI,dh,bh,cx,cL,cM,eqX,eqS,q],by simp [aR,aY,bJ,bP,aD,sq,aX,aC,dI,bq,br,cg,bnd,bOr,fG,bL,fB,toB,ag,aB,aa,ah,ac,fC,f1,f2,ixD,atD,vOr,dt,iy,fIf,ci,bW,fB1,fM,aS,cj,isN,gI,dh,bh,cx,cL,cM,eqX,eqS,q]⟩
   | false =>
    rcases h1 with rfl | ⟨z1,rfl,_⟩
    · exact ⟨f_,by simp [az,aY,aF,bP,aD,sq,aX,aC,dI,bq,br,cg,bnd,bOr,fG,bL,fB,toB,ag,aB,aa,ah,ac,fC,f1,f2,ixD,atD,vOr,dt,iy,fIf,ci,bW,fB1,fM,aS,cj,isN,gI,dh,bh,cx,cL,cM,eqX,eqS,q,e1,e2],by simp [aR,aY,bJ,bP,aD,sq,aX,aC,dI,bq,br,cg,bnd,bOr,fG,bL,fB,toB,ag,aB,aa,ah,ac,fC,f1,f2,ixD,atD,vOr,dt,iy,fIf,ci,bW,fB1,fM,aS,cj,isN,gI,dh,bh,cx,cL,cM,eqX,eqS,q,f1',f2']⟩
    · rcases h2 with rfl | ⟨z2,rfl,_⟩
      · exact ⟨f_,by simp [az,aY,aF,bP,aD,sq,aX,aC,dI,bq,br,cg,bnd,bOr,fG,bL,fB,toB,ag,aB,aa,ah,ac,fC,f1,f2,ixD,atD,vOr,dt,iy,fIf,ci,bW,fB1,fM,aS,cj,isN,gI,dh,bh,cx,cL,cM,eqX,eqS,q,e1,e2],by simp [aR,aY,bJ,bP,aD,sq,aX,aC,dI,bq,br,cg,bnd,bOr,fG,bL,fB,toB,ag,aB,aa,ah,ac,fC,f1,f2,ixD,atD,vOr,dt,iy,fIf,ci,bW,fB1,fM,aS,cj,isN,gI,dh,bh,cx,cL,cM,eqX,eqS,q,f1',f2']⟩
      · exact ⟨seq z1 z2,by simp [az,aY,aF,bP,aD,sq,aX,aC,dI,bq,br,cg,bnd,bOr,fG,bL,fB,toB,ag,aB,aa,ah,ac,fC,f1,f2,ixD,atD,vOr,dt,iy,fIf,ci,bW,fB1,fM,aS,cj,isN,gI,dh,bh,cx,cL,cM,eqX,eqS,q,e1,e2],by simp [aR,aY,bJ,bP,aD,sq,aX,aC,dI,bq,br,cg,bnd,bOr,fG,bL,fB,toB,ag,aB,aa,ah,ac,fC,f1,f2,ixD,atD,vOr,dt,iy,fIf,ci,bW,fB1,fM,aS,cj,isN,gI,dh,bh,cx,cL,cM,eqX,eqS,q,f1',f2']⟩
theorem Bh:(EA.all fun p=>menu.all fun q=>okB (aZ [.str p,.str q]))=e_:=by kernel_rfl
theorem Fj {p q:Str} (h:p∈EA) (h':q∈menu):∃ k,aZ [.str p,.str q]=bo k:=AN (bg (p:=fun q=>okB (aZ [.str p,.str q])) (bg (p:=fun p=>menu.all fun q=>okB (aZ [.str p,.str q])) Bh h) h')
def BD (p q:Str):Bool:=match ce [.str p,.str q],bK [.str p,.str q] with
 | some (.ok (.bl k)),a_ (.ok (.bl k'))=>k == k'
 | _,_=>f_
theorem xg:(pA.all fun p=>pths.all fun q=>BD p q)=e_:=by kernel_rfl
theorem DG {p q:Str} (h:p∈pA) (h':q∈pths):∃ k,ce [.str p,.str q]=bo k∧bK [.str p,.str q]=bo k:=by
 have z:=bg (p:=fun q=>BD p q) (bg (p:=fun p=>pths.all fun q=>BD p q) xg h) h'
 unfold BD at z
 split at z
 · rename_i k k' e1 e2
   have:k=k':=by simpa using z
   subst this
   exact ⟨k,e1,e2⟩
 · cases z
theorem tW (x y:Str):seq x y=seq y x:=by
 unfold seq
 rw [Gp]
 simp
 exact ⟨fun h=>h.symm,fun h=>h.symm⟩
theorem rD (n:aO) (k:Int) (a c:Option Dv) (r:Ev):fG (fB (f2 gI (f2 ixD (ac 1) (fC (.int 5))) (fC .non))) (fB (f2 leX (f2 ixD (ac 1) (fC (.int 5))) (ac 3))) (a :: a_ (enc n) :: c :: a_ (.int k) :: r)=a_ (.ok (lA n k)):=by
 cases h:n.ends <;> simp [aD,sq,aX,aC,dI,bq,br,cg,bnd,bOr,fG,bL,fB,toB,ag,aB,aa,ah,ac,fC,f1,f2,ixD,atD,vOr,dt,iy,fIf,ci,bW,fB1,fM,aS,cj,isN,gI,dh,bh,cx,cL,cM,enc,lA,eO,h,leX]
theorem xh {t:List Dv} (ht:t∈gZ rules) {n:aO} (g:Good n) {a:Ask} (ga:iX a) (now:Int) :
 ∃ k,eU [.tup t,enc n,bP a,.int now]=bo k∧cD [.tup t,enc n,bP a,.int now]=bo k:=by
 obtain ⟨kn,n1,n2⟩:=Bg ht ga
 obtain ⟨s,h,p,O⟩:=a
 have hh:h∈EA:=ga.h
 have hp:p∈pA:=ga.p
 obtain ⟨kwi,w1⟩:=Fj hh g.house
 obtain ⟨ku,u1,u2⟩:=DG hp g.path
 have w2:bO [.str h,.str n.house]=bo kwi:=w1
 have q1:eqX (.str n.house) (.str h)=bo (seq h n.house):=by rw [tW]; rfl
 have q2:neX (.str h) (.str n.house)=bo (!seq h n.house):=rfl
 have q3:seq h n.house=e_→kwi=e_:=fun q=>by
  have e:aZ [.str h,.str n.house]=bo e_:=by simp [aZ,aY,cO,aD,sq,aX,aC,dI,bq,br,cg,bnd,bOr,fG,bL,fB,toB,ag,aB,aa,ah,ac,fC,f1,f2,ixD,atD,vOr,dt,iy,fIf,ci,bW,fB1,fM,aS,cj,isN,gI,dh,bh,cx,cL,cM,eqX,eqS,q]
  rw [w1] at e
  simpa using e
 have e1:=tV n now
 obtain ⟨ak,hak⟩:∃ d,d=bP ⟨s,h,p,O⟩:=⟨_,rfl⟩
 have i0:ixD ak (.int 0)=a_ (.ok (.bl s)):=by rw [hak]; rfl
 have i1:ixD ak (.int 1)=a_ (.ok (.str h)):=by rw [hak]; rfl
 have i2:ixD ak (.int 2)=a_ (.ok (.str p)):=by rw [hak]; rfl
 rw [← hak] at n1 n2 ⊢
 have e2:=rD n now (a_ (.tup t)) (a_ ak) []
 obtain ⟨r,hr⟩:∃ r,eqX (.str n.R) (.str "any")=bo r:=⟨_,rfl⟩
 have f1:fk [enc n,.str h]=bo (if n.ex=e_ then seq h n.house else kwi):=by
  cases hx:n.ex <;> simp [fk,aY,ii,aD,sq,aX,aC,dI,bq,br,cg,bnd,bOr,fG,bL,fB,toB,ag,aB,aa,ah,ac,fC,f1,f2,ixD,atD,vOr,dt,iy,fIf,ci,bW,fB1,fM,aS,cj,isN,gI,dh,bh,cx,cL,cM,enc,hx,q1,w1]
 have c3:(fG (fB (f2 ixD (ac 1) (fC (.int 6)))) (bL (fB (f2 ixD (ac 2) (fC (.int 0)))))) [a_ (.tup t),a_ (enc n),a_ ak,a_ (.int now)]=a_ (.ok (n.S && !s)):=by
  cases hS:n.S <;> simp [aD,sq,aX,aC,dI,bq,br,cg,bnd,bOr,fG,bL,fB,toB,ag,aB,aa,ah,ac,fC,f1,f2,ixD,atD,vOr,dt,iy,fIf,ci,bW,fB1,fM,aS,cj,isN,gI,dh,bh,cx,cL,cM,enc,hS,i0,-ixD]
 have z1:f2 eqX (f2 ixD (ac 1) (fC (.int 7))) (fC (.str "any")) [a_ (.tup t),a_ (enc n),a_ ak,a_ (.int now)]=bo r:=(bf (x:=.str n.R) (y:=.str "any") rfl rfl).trans hr
 refine ⟨!lA n now && (if n.ex=e_ then seq h n.house else kwi) && ku && (!(n.S && !s)) && (r || kn),?_,?_⟩
 · have c1:(bOr (fB (ag cC 2 (aa (ac 1) (aa (ac 3) ah)))) (bL (fB (ag fk 2 (aa (ac 1) (aa (f2 ixD (ac 2) (fC (.int 1))) ah)))))) [a_ (.tup t),a_ (enc n),a_ ak,a_ (.int now)]=a_ (.ok (lA n now || !(if n.ex=e_ then seq h n.house else kwi))) :=
    rj (cW (fN cC rfl rfl e1)) (jN (cW (fN fk rfl ((bf (x:=ak) (y:=.int 1) rfl rfl).trans i1) f1)))
   have c2:(bL (fB (ag ce 2 (aa (f2 ixD (ac 2) (fC (.int 2))) (aa (f2 ixD (ac 1) (fC (.int 4))) ah))))) [a_ (.tup t),a_ (enc n),a_ ak,a_ (.int now)]=a_ (.ok (!ku)) :=
    jN (cW (fN ce ((bf (x:=ak) (y:=.int 2) rfl rfl).trans i2) rfl u1))
   have c4:(vOr (f2 eqX (f2 ixD (ac 1) (fC (.int 7))) (fC (.str "any"))) (ag az 2 (aa (ac 0) (aa (ac 2) ah)))) [a_ (.tup t),a_ (enc n),a_ ak,a_ (.int now)]=bo (r || kn):=by
    have z2:ag az 2 (aa (ac 0) (aa (ac 2) ah)) [a_ (.tup t),a_ (enc n),a_ ak,a_ (.int now)]=bo kn:=fN az rfl rfl n1
    unfold vOr
    rw [z1]
    cases r
    · exact z2
    · rfl
   refine ei ?_
   show (aD (aX _ no sk) (aD (aX _ no sk) (aD (aX _ no sk) (aC _)))) [a_ (.tup t),a_ (enc n),a_ ak,a_ (.int now)]=_
   rw [rB c1,rB c2,rB c3,AT c4]
   cases lA n now <;> cases (if n.ex=e_ then seq h n.house else kwi) <;> cases ku <;> cases (n.S && !s) <;> rfl
 · have c2:(fG (fB (f2 neX (f2 ixD (ac 2) (fC (.int 1))) (f2 ixD (ac 1) (fC (.int 2))))) (bOr (fB (f2 ixD (ac 1) (fC (.int 3)))) (bL (fB (ag bO 2 (aa (f2 ixD (ac 2) (fC (.int 1))) (aa (f2 ixD (ac 1) (fC (.int 2))) ah))))))) [a_ (.tup t),a_ (enc n),a_ ak,a_ (.int now)]=a_ (.ok (!seq h n.house && (n.ex || !kwi))):=by
    have j1:f2 ixD (ac 2) (fC (.int 1)) [a_ (.tup t),a_ (enc n),a_ ak,a_ (.int now)]=a_ (.ok (.str h)):=(bf (x:=ak) (y:=.int 1) rfl rfl).trans i1
    have z1:(fB (f2 neX (f2 ixD (ac 2) (fC (.int 1))) (f2 ixD (ac 1) (fC (.int 2))))) [a_ (.tup t),a_ (enc n),a_ ak,a_ (.int now)]=a_ (.ok (!seq h n.house)):=cW ((bf (x:=.str h) (y:=.str n.house) j1 rfl).trans q2)
    have z2:(bOr (fB (f2 ixD (ac 1) (fC (.int 3)))) (bL (fB (ag bO 2 (aa (f2 ixD (ac 2) (fC (.int 1))) (aa (f2 ixD (ac 1) (fC (.int 2))) ah)))))) [a_ (.tup t),a_ (enc n),a_ ak,a_ (.int now)]=a_ (.ok (n.ex || !kwi)) :=
     rj (cW (k:=n.ex) rfl) (jN (cW (fN bO j1 rfl w2)))
    unfold fG
    rw [z1]
    cases seq h n.house
    · exact z2
    · rfl
   have c4:(dt (ag bK 2 (aa (f2 ixD (ac 2) (fC (.int 2))) (aa (f2 ixD (ac 1) (fC (.int 4))) ah))) (vOr (f2 eqX (f2 ixD (ac 1) (fC (.int 7))) (fC (.str "any"))) (ag aR 2 (aa (ac 0) (aa (ac 2) ah))))) [a_ (.tup t),a_ (enc n),a_ ak,a_ (.int now)]=bo (ku && (r || kn)):=by
    have z2:ag aR 2 (aa (ac 0) (aa (ac 2) ah)) [a_ (.tup t),a_ (enc n),a_ ak,a_ (.int now)]=bo kn:=fN aR rfl rfl n2
    have z3:ag bK 2 (aa (f2 ixD (ac 2) (fC (.int 2))) (aa (f2 ixD (ac 1) (fC (.int 4))) ah)) [a_ (.tup t),a_ (enc n),a_ ak,a_ (.int now)]=bo ku:=fN bK ((bf (x:=ak) (y:=.int 2) rfl rfl).trans i2) rfl u2
    have z4:(vOr (f2 eqX (f2 ixD (ac 1) (fC (.int 7))) (fC (.str "any"))) (ag aR 2 (aa (ac 0) (aa (ac 2) ah)))) [a_ (.tup t),a_ (enc n),a_ ak,a_ (.int now)]=bo (r || kn):=by
     unfold vOr
     rw [z1]
     cases r
     · exact z2
     · rfl
    unfold dt
    rw [z3]
    cases ku
    · rfl
    · exact z4
   refine ei ?_
   show (aD (aX _ no sk) (aD (aX _ no sk) (aC _))) [a_ (.tup t),a_ (enc n),a_ ak,a_ (.int now)]=_
   rw [rB (rj e2 c3),rB c2,AT c4]
   revert q3
   cases lA n now <;> cases (n.S && !s) <;> cases seq h n.house <;> cases n.ex <;> cases kwi <;> cases ku <;> simp
def go (t:List Dv) (n:aO) (a:Ask) (now:Int):Bool:=okY (eU [.tup t,enc n,bP a,.int now])
theorem kf {t:List Dv} (ht:t∈gZ rules) {n:aO} (g:Good n) {a:Ask} (ga:iX a) (now:Int):eU [.tup t,enc n,bP a,.int now]=bo (go t n a now)∧cD [.tup t,enc n,bP a,.int now]=bo (go t n a now):=by
 obtain ⟨k,h1,h2⟩:=xh ht g ga now
 have:go t n a now=k:=by unfold go; rw [h1]; cases k <;> rfl
 rw [this]
 exact ⟨h1,h2⟩
theorem Bi {a:Ask} (g:iX a):cQ [bP a]=bo e_:=by
 obtain ⟨s,h,p,O⟩:=a
 have e1:ba [.str h]=bo e_:=iW (bg (p:=fun n=>okY (ba [.str n])) xb g.h)
 have e2:cr [.str p]=bo e_:=iW (bg (p:=fun n=>okY (cr [.str n])) xf g.p)
 have e0:bw [bP ⟨s,h,p,O⟩,.int 4]=bo e_:=by simp [bw,aY,cP,aD,sq,aX,aC,dI,bq,br,cg,bnd,bOr,fG,bL,fB,toB,ag,aB,aa,ah,ac,fC,f1,f2,ixD,atD,vOr,dt,iy,fIf,ci,bW,fB1,fM,aS,cj,isN,gI,dh,bh,cx,cL,cM,bP,dg,eqX,eqS]
 have ho:O=.non∨∃ o∈menu,O=.str o:=g.o
 rcases ho with rfl | ⟨o,ho,rfl⟩
 · simp only [bP] at e0 ⊢
   simp [cQ,aY,fm,aD,sq,aX,aC,dI,bq,br,cg,bnd,bOr,fG,bL,fB,toB,ag,aB,aa,ah,ac,fC,f1,f2,ixD,atD,vOr,dt,iy,fIf,ci,bW,fB1,fM,aS,cj,isN,gI,dh,bh,cx,cL,cM,e0,e1,e2,kc,iB]
 · have e3:ba [.str o]=bo e_:=Eo (me ho)
   simp only [bP] at e0 ⊢
   simp [cQ,aY,fm,aD,sq,aX,aC,dI,bq,br,cg,bnd,bOr,fG,bL,fB,toB,ag,aB,aa,ah,ac,fC,f1,f2,ixD,atD,vOr,dt,iy,fIf,ci,bW,fB1,fM,aS,cj,isN,gI,dh,bh,cx,cL,cM,e0,e1,e2,e3,kc,iB]
section
variable {T J A N a:Dv} {c:Nat}
theorem BE (h:bN [a]=bo e_):ay [a]=a_ (.ok .non):=by simp [ay,gK,cu,aD,sq,aX,aC,bq,cg,bnd,bL,fB,toB,ag,aB,aa,ah,ac,fC,aS,h]
theorem Fk (h:bN [a]=bo f_):ay [a]=a_ (.exc 1):=by simp [ay,gK,cu,aD,sq,aX,aC,bq,cg,bnd,bL,fB,toB,ag,aB,aa,ah,ac,fC,aS,h]
theorem Et (h:dP [a]=bo e_):aH [a]=a_ (.ok .non):=by simp [aH,gK,db,aD,sq,aX,aC,bq,cg,bnd,bL,fB,toB,ag,aB,aa,ah,ac,fC,aS,h]
theorem Fm (h:dP [a]=bo f_):aH [a]=a_ (.exc 5):=by simp [aH,gK,db,aD,sq,aX,aC,bq,cg,bnd,bL,fB,toB,ag,aB,aa,ah,ac,fC,aS,h]
theorem Eu (h:cQ [a]=bo e_):aQ [a]=a_ (.ok .non):=by simp [aQ,gK,c0,aD,sq,aX,aC,bq,cg,bnd,bL,fB,toB,ag,aB,aa,ah,ac,fC,aS,h]
theorem Fp (h:cQ [a]=bo f_):aQ [a]=a_ (.exc 3):=by simp [aQ,gK,c0,aD,sq,aX,aC,bq,cg,bnd,bL,fB,toB,ag,aB,aa,ah,ac,fC,aS,h]
theorem DH (h:aV [a]=bo e_):aG [a]=a_ (.ok .non):=by simp [aG,gK,bU,aD,sq,aX,aC,bq,cg,bnd,bL,fB,toB,ag,aB,aa,ah,ac,fC,aS,h]
theorem DI (h:aV [a]=bo f_):aG [a]=a_ (.exc 6):=by simp [aG,gK,bU,aD,sq,aX,aC,bq,cg,bnd,bL,fB,toB,ag,aB,aa,ah,ac,fC,aS,h]
theorem dY (F:List Dv→Option (Rs Dv)) {f:FnE} {ρ:Ev} (hf:f ρ=a_ (.ok a)) (h:F [a]=a_ (.ok .non)):bq (aB F 1 (aa f ah)) ρ=a_ (.nx ρ):=gp (cE F (am hf aI) rfl h)
theorem dX (F:List Dv→Option (Rs Dv)) {f:FnE} {ρ:Ev} (hf:f ρ=a_ (.ok a)) (h:F [a]=a_ (.exc c)):bq (aB F 1 (aa f ah)) ρ=a_ (.exc c):=Dr (cE F (am hf aI) rfl h)
theorem DJ (h:ay [T]=a_ (.exc c)):aj [T,J,A,N]=a_ (.exc c):=wQ (by
 show ax [a_ T,a_ J,a_ A,a_ N]=_
 unfold ax
 exact AK (dX ay rfl h))
theorem DK (h1:ay [T]=a_ (.ok .non)) (h:aH [J]=a_ (.exc c)):aj [T,J,A,N]=a_ (.exc c):=wQ (by
 show ax [a_ T,a_ J,a_ A,a_ N]=_
 unfold ax
 rw [aA (dY ay rfl h1)]
 exact AK (dX aH rfl h))
theorem DM (h1:ay [T]=a_ (.ok .non)) (h2:aH [J]=a_ (.ok .non)) (h:aQ [A]=a_ (.exc c)):aj [T,J,A,N]=a_ (.exc c):=wQ (by
 show ax [a_ T,a_ J,a_ A,a_ N]=_
 unfold ax
 rw [aA (dY ay rfl h1),aA (dY aH rfl h2)]
 exact AK (dX aQ rfl h))
theorem DN (h1:ay [T]=a_ (.ok .non)) (h2:aH [J]=a_ (.ok .non)) (h3:aQ [A]=a_ (.ok .non)) (h:aG [N]=a_ (.exc c)):aj [T,J,A,N]=a_ (.exc c):=wQ (by
 show ax [a_ T,a_ J,a_ A,a_ N]=_
 unfold ax
 rw [aA (dY ay rfl h1),aA (dY aH rfl h2),aA (dY aQ rfl h3)]
 exact dX aG rfl h)
theorem DO (h1:ay [T]=a_ (.ok .non)) (h2:aH [J]=a_ (.ok .non)) (h3:aQ [A]=a_ (.ok .non)) (h:aG [N]=a_ (.ok .non)):aj [T,J,A,N]=a_ (.ok .non):=by
 have e:ax [a_ T,a_ J,a_ A,a_ N]=a_ (.nx [a_ T,a_ J,a_ A,a_ N]):=by
  unfold ax
  rw [aA (dY ay rfl h1),aA (dY aH rfl h2),aA (dY aQ rfl h3)]
  exact dY aG rfl h
 unfold aj gK
 show (match ax [a_ T,a_ J,a_ A,a_ N] with | some (.nx _)=>a_ (Rs.ok Dv.non) | some (.rt d)=>a_ (Rs.ok d) | some (.exc c)=>a_ (Rs.exc c) | none=>ck)=_
 rw [e]
theorem a4 {f g k m:FnE} {ρ:Ev} {a b c d:Dv} (h:f ρ=a_ (.ok a)) (h':g ρ=a_ (.ok b)) (h'':k ρ=a_ (.ok c)) (h3:m ρ=a_ (.ok d)):aa f (aa g (aa k (aa m ah))) ρ=a_ (.ok [a,b,c,d]):=am h (am h' (am h'' (am h3 aI)))
theorem cE4 (F:List Dv→Option (Rs Dv)) {f g k m:FnE} {ρ:Ev} {a b c d:Dv} {r:Option (Rs Dv)} (h:f ρ=a_ (.ok a)) (h':g ρ=a_ (.ok b)) (h'':k ρ=a_ (.ok c)) (h3:m ρ=a_ (.ok d)) (hF:F [a,b,c,d]=r):aB F 4 (aa f (aa g (aa k (aa m ah)))) ρ=r:=cE F (a4 h h' h'' h3) rfl hF
theorem Ew (h:aj [T,J,A,N]=a_ (.exc c)):bC [T,J,A,N]=a_ (.exc c):=wQ (by
 show dR [a_ T,a_ J,a_ A,a_ N,ck]=_
 unfold dR
 exact AK (Dr (cE4 aj rfl rfl rfl rfl h)))
theorem Fq (h:aj [T,J,A,N]=a_ (.exc c)):bI [T,J,A,N]=a_ (.exc c):=wQ (by
 show bd [a_ T,a_ J,a_ A,a_ N]=_
 unfold bd
 have e:aa (aN [] (cF (aB bC 4 (aa (ac 0) (aa (ac 1) (aa (ac 2) (aa (ac 3) ah)))))) ck (f2 cB (f2 cB (f2 ixD (ac 0) (fC (.int 0))) (fC (.str "="))) (f2 ixD (ac 0) (fC (.int 1))))) ah [a_ T,a_ J,a_ A,a_ N]=a_ (.exc c):=by
  have z:aN [] (cF (aB bC 4 (aa (ac 0) (aa (ac 1) (aa (ac 2) (aa (ac 3) ah)))))) ck (f2 cB (f2 cB (f2 ixD (ac 0) (fC (.int 0))) (fC (.str "="))) (f2 ixD (ac 0) (fC (.int 1)))) [a_ T,a_ J,a_ A,a_ N]=a_ (.exc c):=wR (AM (cE4 bC rfl rfl rfl rfl (Ew h)))
  show bnd (aN _ _ _ _ _) _=_
  rw [z]
  rfl
 refine Ds ?_
 unfold fM
 show bnd (aa _ ah _) _=_
 rw [e]
 rfl)
theorem Ft (h:aj [T,J,A,N]=a_ (.exc c)):fV [T,J,A,N]=a_ (.exc c):=wQ (by
 show dU [a_ T,a_ J,a_ A,a_ N]=_
 unfold dU
 exact AK (Dr (cE4 aj rfl rfl rfl rfl h)))
def Fw:List (List Dv→Option (Rs Dv)):=[bC,bI,fV]
theorem tix {w:Nat} {F:List Dv→Option (Rs Dv)} (hF:Fw[w]?=a_ F) {ρ:Ev} (h:ρ=[a_ (.int w),a_ T,a_ J,a_ A,a_ N,ck]):gQ [bC,bI,fV] 4 (ac 0) (aa (ac 1) (aa (ac 2) (aa (ac 3) (aa (ac 4) ah)))) ρ=F [T,J,A,N]:=by
 subst h
 unfold gQ
 show bnd (a_ (Rs.ok (Dv.int w))) _=_
 show (if (0:Int)≤w then (match Fw[((w:Int)).toNat]? with | some F=>aB F 4 (aa (ac 1) (aa (ac 2) (aa (ac 3) (aa (ac 4) ah)))) [a_ (.int w),a_ T,a_ J,a_ A,a_ N,ck] | none=>ck) else ck)=_
 rw [if_pos (by omega),Int.toNat_natCast,hF]
 exact cE4 F rfl rfl rfl rfl rfl
def rf (k:Int):Dv:=.tup [.str "refused",.int k]
theorem rE {w:Nat} {F:List Dv→Option (Rs Dv)} (hF:Fw[w]?=a_ F) {d:Dv} (h:F [T,J,A,N]=a_ (.ok d)):ar [.int w,T,J,A,N]=a_ (.ok d):=ei (by
 show uB 7 5 6 _ (ag bH 1 (aa (ac 5) ah)) [a_ (.int w),a_ T,a_ J,a_ A,a_ N,ck]=_
 unfold uB
 rw [tix hF rfl,h])
theorem tX {w:Nat} (hw:w < 3) (h:aj [T,J,A,N]=a_ (.exc c)) (hc:c=1∨c=3∨c=5∨c=6):ar [.int w,T,J,A,N]=a_ (.ok (rf c)):=ei (by
 show uB 7 5 6 _ (ag bH 1 (aa (ac 5) ah)) [a_ (.int w),a_ T,a_ J,a_ A,a_ N,ck]=_
 have k:∀ {F:List Dv→Option (Rs Dv)},Fw[w]?=a_ F→F [T,J,A,N]=a_ (.exc c)→uB 7 5 6 (gQ [bC,bI,fV] 4 (ac 0) (aa (ac 1) (aa (ac 2) (aa (ac 3) (aa (ac 4) ah))))) (ag bH 1 (aa (ac 5) ah)) [a_ (.int w),a_ T,a_ J,a_ A,a_ N,ck]=a_ (.rt (rf c)):=by
  intro F hF e
  unfold uB
  rw [tix hF rfl,e]
  rcases hc with rfl | rfl | rfl | rfl <;> kernel_rfl
 match w,hw with
 | 0,_=>exact k rfl (Ew h)
 | 1,_=>exact k rfl (Fq h)
 | 2,_=>exact k rfl (Ft h))
end
section
variable {ns:List Int} {t:List Dv} {js:List aO} {now:Int}
theorem rF:((gZ rules).all fun t=>okY (bN [.tup t]))=e_:=by kernel_rfl
theorem gC (ht:t∈gZ rules):bN [.tup t]=bo e_:=iW (bg (p:=fun t=>okY (bN [.tup t])) rF ht)
theorem xj (F:List Dv→Option (Rs Dv)) {f g k m:FnE} {ρ:Ev} {a b c d e:Dv} (h:f ρ=a_ (.ok a)) (h':g ρ=a_ (.ok b)) (h'':k ρ=a_ (.ok c)) (h3:m ρ=a_ (.ok d)) (hF:F [a,b,c,d]=a_ (.ok e)):ag F 4 (aa f (aa g (aa k (aa m ah)))) ρ=a_ (.ok e) :=
 gq (am h (am h' (am h'' (am h3 aI)))) rfl hF
theorem xl (n:aO):imm (enc n)=e_:=by
 unfold enc
 cases h:n.ends <;> simp [imm,imms,eO]
theorem nM:∀ xs:List aO,imms (xs.map enc)=e_
 | []=>by simp [imms]
 | n :: xs=>by simp [imms,xl n,nM xs]
def kp (n:aO):Int:=-(n.path.length:Int)
theorem rG:(pths.all fun p=>t_ (p.length≤100000))=e_:=by kernel_rfl
theorem DP {n:aO} (g:Good n):xL 1 (f1 pK (fB1 dg (aa (f2 ixD (ac 0) (fC (.int 4))) ah))) [enc n]=a_ (.ok (.int (kp n))):=by
 have h:n.path.length≤100000:=by simpa using bg (p:=fun p:Str=>t_ (p.length≤100000)) rG g.path
 show f1 pK (fB1 dg (aa (f2 ixD (ac 0) (fC (.int 4))) ah)) [a_ (enc n)]=_
 have e:dg [.str n.path]=a_ (.ok (.int (n.path.length:Int))):=by
  show (if n.path.length≤100000 then a_ (Rs.ok (Dv.int (n.path.length:Int))) else ck)=_
  rw [if_pos h]
 exact (CF ((fH (am (x:=.str n.path) rfl aI)).trans e)).trans rfl
theorem jC {F:List Dv→Option (Rs Dv)}:∀ {l:List aO},(∀ n∈l,F [enc n]=a_ (.ok (.int (kp n))))→eN F (l.map enc)=a_ (l.map kp)
 | [],_=>rfl
 | n :: l,h=>by
  show (match F [enc n],eN F (l.map enc) with | some (.ok (.int k)),a_ ks=>a_ (k :: ks) | _,_=>ck)=_
  rw [h n p_,jC fun m hm=>h m (on _ hm)]
  rfl
def snt (l:List aO):List aO:=dv (fun a b=>!t_ (kp b < kp a)) l
theorem nN (l:List aO):(snt l).Perm l:=cX _ _
theorem tY {F:List Dv→Option (Rs Dv)} {l:List aO} (h:∀ n∈l,F [enc n]=a_ (.ok (.int (kp n)))) (hl:l.length < 64):ou F [.lst (l.map enc)]=a_ (.ok (.lst ((snt l).map enc))):=by
 show (match eN F (l.map enc) with | some ks=>if ks.length < 64∧imms (l.map enc)=e_ then a_ (Rs.ok (Dv.lst (fR ks (l.map enc)))) else ck | none=>ck)=_
 rw [jC h]
 dsimp only
 rw [if_pos ⟨by simpa using hl,nM l⟩]
 unfold fR snt
 have e:(l.map kp).zip (l.map enc)=l.map fun n=>(kp n,enc n):=by
  clear h hl
  induction l with
  | nil=>rfl
  | cons n l ih=>rw [FV,FV,List.zip_cons_cons,ih]; rfl
 rw [e,← jV (le:=fun a b=>!t_ (kp b < kp a)) (fun n=>(kp n,enc n)) l fun _ _ _ _=>rfl,Io]
 rfl
def gon (t:List Dv) (js:List aO) (a:Ask) (now:Int):List aO:=js.filter fun n=>go t n a now
theorem nsd (ht:t∈gZ rules) (J:Jar js) {a:Ask} (ga:iX a) (h1:0≤now) (h2:now≤9999):aj [.tup t,ej js,bP a,.int now]=a_ (.ok .non) :=
 DO (BE (gC ht)) (Et (Bc J)) (Eu (Bi ga)) (DH (tR h1 h2))
theorem rH (ht:t∈gZ rules) (J:Jar js) {a:Ask} (ga:iX a) (h1:0≤now) (h2:now≤9999):bC [.tup t,ej js,bP a,.int now]=a_ (.ok (.lst ((snt (gon t js a now)).map enc))):=by
 have jl:=J.l
 have hl:(gon t js a now).length≤js.length:=GD _ _
 refine oJ ?_
 show dR [a_ (.tup t),a_ (ej js),a_ (bP a),a_ (.int now),ck]=_
 unfold dR
 rw [aA (gp (cE4 aj rfl rfl rfl rfl (nsd ht J ga h1 h2)))]
 have e1:(bj 1 [("table",0),("ask",2),("now",3)] (cF (ac 1)) (gN 0) (a_ (fB (ag eU 4 (aa (ac 1) (aa (ac 0) (aa (ac 2) (aa (ac 3) ah))))))) (ac 0)) [a_ (.tup t),a_ (ej js),a_ (bP a),a_ (.int now),ck]=a_ (.ok (.lst ((gon t js a now).map enc))) :=
  oI enc (fun n=>go t n a now) enc (jA rfl) (by omega) fun n hn=>⟨cW (xj eU rfl rfl rfl rfl (kf ht (J.g n hn) ga now).1),rfl⟩
 rw [aA (bB e1 rfl)]
 simp only [List.set_cons_succ,List.set_cons_zero]
 exact di ((fH (am rfl aI)).trans (tY (fun n hn=>DP (J.g n (Gj.mp hn).1)) (by omega)))
theorem lD:∀ l:List Str,jM (l.map Dv.str)=a_ l
 | []=>rfl
 | x :: l=>by
  show (match jM (l.map Dv.str) with | some xs=>a_ (x :: xs) | none=>ck)=_
  rw [lD l]
theorem nO (sep:Str) (B:Nat):∀ (l:List Str) (n:Nat),(∀ t∈l,t.length≤B)→l.foldl (fun a t=>a + t.length + sep.length) n≤n + l.length * (B + sep.length)
 | [],n,_=>by simp
 | t :: l,n,h=>by
  have ih:=nO sep B l (n + t.length + sep.length) fun x hx=>h x (on _ hx)
  have h0:=h t p_
  show l.foldl _ (n + t.length + sep.length)≤_
  rw [Hc,Me]
  omega
theorem DQ {sep:Str} {ts:List Str} (hs:sep.length≤10) (h:∀ t∈ts,t.length≤20000) (hl:ts.length≤20):gm sep [.lst (ts.map Dv.str)]=a_ (.ok (.str (L_ sep ts))):=by
 show (match jM (ts.map Dv.str) with | some ts=>if JoinOk sep ts=e_ then a_ (Rs.ok (Dv.str (L_ sep ts))) else ck | none=>ck)=_
 rw [lD]
 dsimp only
 have e:=nO sep 20000 ts 0 h
 have e2:ts.length * (20000 + sep.length)≤20 * (20000 + 10):=Nat.mul_le_mul hl (by omega)
 have e4:JoinOk sep ts=e_:=by
  unfold JoinOk Builtin.Str.tooLong
  rw [List.foldl_toArray]
  have e3:¬ (ts.foldl (fun a t=>a + t.length + sep.length) 0 > sizeLine):=by
   have:sizeLine=16777216:=by decide
   omega
  simp only [e3]
  rfl
 rw [if_pos e4]
def pc (n:aO):Str:=n.nm ++ b_ "=" ++ n.w
theorem Bj:(nms.all fun n=>wts.all fun w=>t_ (n.length + 1 + w.length≤200))=e_:=by kernel_rfl
theorem xn (a b:Str):(a ++ b).length=a.length + b.length:=Ja
theorem uO {n:aO} (g:Good n):n.nm.length + 1 + n.w.length≤200:=by
 simpa using bg (p:=fun w:Str=>t_ (n.nm.length + 1 + w.length≤200)) (bg (p:=fun n:Str=>wts.all fun w=>t_ (n.length + 1 + w.length≤200)) Bj g.nm) g.w
theorem tZ {n:aO} (g:Good n):cB (.str n.nm) (.str (b_ "="))=a_ (.ok (.str (n.nm ++ b_ "=")))∧cB (.str (n.nm ++ b_ "=")) (.str n.w)=a_ (.ok (.str (pc n))):=by
 have h:=uO g
 have e1:(b_ "=").length=1:=by kernel_rfl
 constructor
 · show (if n.nm.length + (b_ "=").length≤100000 then a_ (Rs.ok (Dv.str (n.nm ++ b_ "="))) else ck)=_
   rw [if_pos (by omega)]
 · show (if (n.nm ++ b_ "=").length + n.w.length≤100000 then a_ (Rs.ok (Dv.str (n.nm ++ b_ "=" ++ n.w))) else ck)=_
   rw [if_pos (by rw [xn]; omega)]; rfl
def txt (l:List aO):Str:=L_ (b_ "; ") (l.map pc)
theorem uP {l:List aO} (g:∀ n∈l,Good n) (hl:l.length≤20):gm (b_ "; ") [.lst (l.map fun n=>Dv.str (pc n))]=a_ (.ok (.str (txt l))):=by
 have e:(l.map fun n=>Dv.str (pc n))=(l.map pc).map Dv.str:=by rw [Io]; rfl
 rw [e]
 refine DQ (by decide) (fun x hx=>?_) (by simpa using hl)
 obtain ⟨n,hn,rfl⟩:=G0.mp hx
 have:=uO (g n hn)
 have e1:(b_ "=").length=1:=by kernel_rfl
 unfold pc
 rw [xn,xn]
 omega
theorem ua (J:Jar js) {a:Ask}:∀ n∈snt (gon t js a now),Good n:=fun n hn=>J.g n (Gj.mp ((nN _).mem_iff.mp hn)).1
theorem xo (J:Jar js) {a:Ask}:(snt (gon t js a now)).length≤18:=by
 have jl:=J.l
 have hl:(gon t js a now).length≤js.length:=GD _ _
 have:=(nN (gon t js a now)).length_eq
 omega
theorem xp (ht:t∈gZ rules) (J:Jar js) {a:Ask} (ga:iX a) (h1:0≤now) (h2:now≤9999):bI [.tup t,ej js,bP a,.int now]=a_ (.ok (.str (txt (snt (gon t js a now))))):=by
 refine oJ ?_
 show bd [a_ (.tup t),a_ (ej js),a_ (bP a),a_ (.int now)]=_
 unfold bd
 have s:cF (aB bC 4 (aa (ac 0) (aa (ac 1) (aa (ac 2) (aa (ac 3) ah))))) [a_ (.tup t),a_ (ej js),a_ (bP a),a_ (.int now)]=a_ (.ok ((snt (gon t js a now)).map enc)):=by
  unfold cF
  rw [cE4 bC rfl rfl rfl rfl (rH ht J ga h1 h2)]
  rfl
 have e:aN [] (cF (aB bC 4 (aa (ac 0) (aa (ac 1) (aa (ac 2) (aa (ac 3) ah)))))) ck (f2 cB (f2 cB (f2 ixD (ac 0) (fC (.int 0))) (fC (.str "="))) (f2 ixD (ac 0) (fC (.int 1)))) [a_ (.tup t),a_ (ej js),a_ (bP a),a_ (.int now)]=a_ (.ok (.lst ((snt (gon t js a now)).map fun n=>Dv.str (pc n)))) :=
  ef enc (fun n=>Dv.str (pc n)) s (by have:=xo (t:=t) (now:=now) J (a:=a); omega) fun n hn=>(bf (x:=.str (n.nm ++ b_ "=")) (y:=.str n.w) ((bf (x:=.str n.nm) (y:=.str (b_ "=")) rfl rfl).trans (tZ (ua J n hn)).1) rfl).trans (tZ (ua J n hn)).2
 refine di ?_
 unfold fM
 show bnd (aa _ ah _) (fun xs=>gm (b_ "; ") xs)=_
 rw [am e aI]
 exact uP (ua J) (by have:=xo (t:=t) (now:=now) J (a:=a); omega)
def usd (n:aO) (now:Int):aO:={ n with us:=if now > n.us then now else n.us }
def usj (t:List Dv) (js:List aO) (a:Ask) (now:Int):List aO:=js.map fun n=>if go t n a now=e_ then usd n now else n
theorem Bk (n:aO):eX [enc n,.int now]=a_ (.ok (enc (usd n now))):=by
 refine ei ?_
 show gB [a_ (enc n),a_ (.int now)]=_
 rfl
theorem xq (ht:t∈gZ rules) (J:Jar js) {a:Ask} (ga:iX a) (h1:0≤now) (h2:now≤9999):fV [.tup t,ej js,bP a,.int now]=a_ (.ok (ej (usj t js a now))):=by
 have jl:=J.l
 refine oJ ?_
 show dU [a_ (.tup t),a_ (ej js),a_ (bP a),a_ (.int now)]=_
 unfold dU
 rw [aA (gp (cE4 aj rfl rfl rfl rfl (nsd ht J ga h1 h2)))]
 have e1:(aN [("table",0),("ask",2),("now",3)] (cF (ac 1)) ck (fIf (fB (ag eU 4 (aa (ac 1) (aa (ac 0) (aa (ac 2) (aa (ac 3) ah)))))) (ag eX 2 (aa (ac 0) (aa (ac 3) ah))) (ac 0))) [a_ (.tup t),a_ (ej js),a_ (bP a),a_ (.int now)]=a_ (.ok (.lst (js.map fun n=>enc (if go t n a now=e_ then usd n now else n)))) :=
  ef enc (fun n=>enc (if go t n a now=e_ then usd n now else n)) (jA rfl) (by omega) fun n hn=>by
   have q:fB (ag eU 4 (aa (ac 1) (aa (ac 0) (aa (ac 2) (aa (ac 3) ah))))) [a_ (enc n),a_ (.tup t),a_ (bP a),a_ (.int now)]=a_ (.ok (go t n a now)):=cW (xj eU rfl rfl rfl rfl (kf ht (J.g n hn) ga now).1)
   show fIf _ _ _ [a_ (enc n),a_ (.tup t),a_ (bP a),a_ (.int now)]=_
   cases hg:go t n a now with
   | true=>rw [hg] at q; rw [zi q,if_pos rfl]; exact fN eX rfl rfl (Bk n)
   | false=>rw [hg] at q; rw [zj q,if_neg (by decide)]; rfl
 refine di ((fH (am e1 aI)).trans ?_)
 show a_ (Rs.ok (Dv.tup (js.map fun n=>enc (if go t n a now=e_ then usd n now else n))))=_
 unfold ej usj
 rw [Io]; rfl
theorem Bl {n:aO} {l:List aO} (hn:Good n) (hl:∀ a∈l,Good a):inX (enc n) (.lst (l.map enc))=a_ (.ok (.bl (t_ (n∈l))))∧m8 (enc n) (.lst (l.map enc))=a_ (.ok (.bl (!t_ (n∈l)))):=by
 have e:(l.any fun a=>t_ (a=n))=t_ (n∈l):=by
  rw [Gp,KG,decide_eq_true_eq]
  constructor
  · rintro ⟨a,ha,h⟩
    have:a=n:=by simpa using h
    rw [← this]; exact ha
  · intro h
    exact ⟨n,h,by simp⟩
 have:=Do (p:=fun a=>t_ (a=n)) ((nH hn).le (by omega)) rfl (fun a ha=>(nH (hl a ha)).le (by omega)) (fun a _=>wV a n)
 rw [e] at this
 exact ⟨this.1,this.2.1⟩
end
def bk (S:List Nat) (l:List aO):List aO:=S.flatMap fun s=>l.filter fun n=>t_ (n.path.length=s)
theorem rJ {le:aO→aO→Bool} {n:aO}:∀ (xs ys:List aO),(∀ b∈xs,le n b=f_)→jU le n (xs ++ ys)=xs ++ jU le n ys
 | [],_,_=>rfl
 | x :: xs,ys,h=>by
  show (if le n x=e_ then n :: x :: (xs ++ ys) else x :: jU le n (xs ++ ys))=x :: (xs ++ jU le n ys)
  rw [if_neg (by rw [h x p_]; decide),rJ xs ys fun b hb=>h b (on _ hb)]
theorem Bm {le:aO→aO→Bool} {n:aO}:∀ (xs:List aO),(∀ b∈xs,le n b=e_)→jU le n xs=n :: xs
 | [],_=>rfl
 | x :: xs,h=>by unfold jU; rw [if_pos (h x p_)]
def leP (a b:aO):Bool:=!t_ (kp b < kp a)
theorem Bn {S:List Nat} {l:List aO} {b:aO} (h:b∈bk S l):b.path.length∈S:=by
 obtain ⟨s,hs,hb⟩:=List.mem_flatMap.mp h
 have:=(Gj.mp hb).2
 rw [decide_eq_true_eq] at this
 rw [this]; exact hs
theorem rK {n:aO} {l:List aO}:∀ {S:List Nat},n.path.length ∉ S→bk S (n :: l)=bk S l
 | [],_=>rfl
 | s :: S,h=>by
  have e:bk S (n :: l)=bk S l:=rK fun hm=>h (on _ hm)
  show ((n :: l).filter fun n=>t_ (n.path.length=s)) ++ bk S (n :: l)=(l.filter fun n=>t_ (n.path.length=s)) ++ bk S l
  rw [e,HJ (by
   rw [decide_eq_true_eq]
   intro z
   exact h (z ▸ p_))]
theorem uQ {n:aO} {l:List aO}:∀ {S:List Nat},S.Pairwise (fun a b=>b < a)→n.path.length∈S→jU leP n (bk S l)=bk S (n :: l)
 | [],_,h=>by cases h
 | s :: S,hp,h=>by
  rw [GX] at hp
  show jU leP n ((l.filter fun n=>t_ (n.path.length=s)) ++ bk S l)=((n :: l).filter fun n=>t_ (n.path.length=s)) ++ bk S (n :: l)
  by_cases hs:n.path.length=s
  · have hn:n.path.length ∉ S:=fun hm=>by have:=hp.1 _ hm; omega
    rw [rK hn,IN (by rw [decide_eq_true_eq]; exact hs),MD]
    refine Bm _ fun b hb=>?_
    unfold leP kp
    rcases Ga.mp hb with q | q
    · have:=(Gj.mp q).2
      rw [decide_eq_true_eq] at this
      simp; omega
    · have:=hp.1 _ (Bn q)
      simp; omega
  · have hm:n.path.length∈S:=(FB.mp h).resolve_left hs
    rw [rJ _ _ fun b hb=>?_,uQ hp.2 hm,HJ (by rw [decide_eq_true_eq]; exact hs)]
    have q:=(Gj.mp hb).2
    rw [decide_eq_true_eq] at q
    have:=hp.1 _ hm
    unfold leP kp
    simp; omega
theorem uR {S:List Nat} (hp:S.Pairwise (fun a b=>b < a)):∀ {l:List aO},(∀ n∈l,n.path.length∈S)→snt l=bk S l
 | [],_=>by
  show ([]:List aO)=bk S []
  unfold bk
  symm
  simp
 | n :: l,h=>by
  show jU leP n (snt l)=_
  rw [uR hp fun m hm=>h m (on _ hm),uQ hp (h n p_)]
def S30:List Nat:=(pi 30).reverse
theorem s30:S30.Pairwise (fun a b=>b < a):=by decide
theorem xr:(pths.all fun p=>S30.contains p.length)=e_:=by kernel_rfl
theorem Bo {n:aO} (g:Good n):n.path.length∈S30:=by
 have:=bg (p:=fun p:Str=>S30.contains p.length) xr g.path
 exact K_.mp this
section
variable {ns:List Int} {t:List Dv} {js:List aO} {now:Int}
theorem oK {w T J a b d:Dv} {f0 f1 f2 f3 f4:FnE} {ρ:Ev} (h0:f0 ρ=a_ (.ok w)) (h1:f1 ρ=a_ (.ok T)) (h2:f2 ρ=a_ (.ok J)) (h3:f3 ρ=a_ (.ok a)) (h4:f4 ρ=a_ (.ok b)) (h:ar [w,T,J,a,b]=a_ (.ok d)):ag ar 5 (aa f0 (aa f1 (aa f2 (aa f3 (aa f4 ah))))) ρ=a_ (.ok d) :=
 gq (am h0 (am h1 (am h2 (am h3 (am h4 aI))))) rfl h
def kn (a b:Str):Dv:=.tup [.str a,.str "1",.str "a.b",.bl f_,.str b,.non,.bl f_,.str "any",.int 0,.int 0]
def J4:Dv:=.tup [kn "n" "/",kn "m" "/x",kn "k" "/x/y",kn "j" "/x"]
def J1:Dv:=.tup [.tup [.str "n",.str "1",.str "a.b",.bl f_,.str "/",.non,.bl f_,.str "any",.int 0,.int 7]]
def A1:Dv:=.tup [.bl e_,.str "a.b",.str "/",.non]
def A4:Dv:=.tup [.bl e_,.str "a.b",.str "/x/y",.non]
theorem k1 (ht:t∈gZ rules):ar [.int 2,.tup t,J1,A1,.int 5]=a_ (.ok J1):=rE (w:=2) rfl (by
 refine oJ ?_
 show dU [a_ (.tup t),a_ J1,a_ A1,a_ (.int 5)]=_
 unfold dU
 rw [aA (gp (cE4 aj rfl rfl rfl rfl (DO (BE (gC ht)) (by kernel_rfl) (by kernel_rfl) (by kernel_rfl))))]
 kernel_rfl)
theorem k4s (ht:t∈gZ rules):bC [.tup t,J4,A4,.int 0]=a_ (.ok (.lst [kn "k" "/x/y",kn "m" "/x",kn "j" "/x",kn "n" "/"])):=by
 refine oJ ?_
 show dR [a_ (.tup t),a_ J4,a_ A4,a_ (.int 0),ck]=_
 unfold dR
 rw [aA (gp (cE4 aj rfl rfl rfl rfl (DO (BE (gC ht)) (by kernel_rfl) (by kernel_rfl) (by kernel_rfl))))]
 kernel_rfl
theorem k4 (ht:t∈gZ rules):ar [.int 1,.tup t,J4,A4,.int 0]=a_ (.ok (.str "k=1; m=1; j=1; n=1")):=rE (w:=1) rfl (by
 refine oJ ?_
 show bd [a_ (.tup t),a_ J4,a_ A4,a_ (.int 0)]=_
 unfold bd
 refine di ?_
 have s:cF (aB bC 4 (aa (ac 0) (aa (ac 1) (aa (ac 2) (aa (ac 3) ah))))) [a_ (.tup t),a_ J4,a_ A4,a_ (.int 0)]=a_ (.ok [kn "k" "/x/y",kn "m" "/x",kn "j" "/x",kn "n" "/"]):=by
  unfold cF
  rw [cE4 bC rfl rfl rfl rfl (k4s ht)]
  rfl
 have e:aN [] (cF (aB bC 4 (aa (ac 0) (aa (ac 1) (aa (ac 2) (aa (ac 3) ah)))))) ck (f2 cB (f2 cB (f2 ixD (ac 0) (fC (.int 0))) (fC (.str "="))) (f2 ixD (ac 0) (fC (.int 1)))) [a_ (.tup t),a_ J4,a_ A4,a_ (.int 0)]=a_ (.ok (.lst [.str "k=1",.str "m=1",.str "j=1",.str "n=1"])):=by
  unfold aN
  rw [s]
  kernel_rfl
 unfold fM
 show bnd (aa _ ah _) (fun xs=>gm (b_ "; ") xs)=_
 rw [am e aI]
 kernel_rfl)
theorem ub (ht:t∈gZ rules):bz [.tup t]=bo e_:=ei (by
 show bx [a_ (.tup t),ck,ck,ck]=_
 unfold bx
 rw [aA (bB (ρ':=[a_ (.tup t),a_ (.lst [.tup [.str "n",.str "/"],.tup [.str "m",.str "/x"],.tup [.str "k",.str "/x/y"],.tup [.str "j",.str "/x"]]),ck,ck]) (d:=.lst [.tup [.str "n",.str "/"],.tup [.str "m",.str "/x"],.tup [.str "k",.str "/x/y"],.tup [.str "j",.str "/x"]]) (by kernel_rfl) rfl)]
 rw [aA (bB (ρ':=[a_ (.tup t),a_ (.lst [.tup [.str "n",.str "/"],.tup [.str "m",.str "/x"],.tup [.str "k",.str "/x/y"],.tup [.str "j",.str "/x"]]),a_ J4,ck]) (d:=J4) (by kernel_rfl) rfl)]
 rw [aA (bB (ρ':=[a_ (.tup t),a_ (.lst [.tup [.str "n",.str "/"],.tup [.str "m",.str "/x"],.tup [.str "k",.str "/x/y"],.tup [.str "j",.str "/x"]]),a_ J4,a_ J1]) (d:=J1) (by kernel_rfl) rfl)]
 obtain ⟨ρ,hρ⟩:∃ ρ:Ev,ρ=[a_ (.tup t),a_ (.lst [.tup [.str "n",.str "/"],.tup [.str "m",.str "/x"],.tup [.str "k",.str "/x/y"],.tup [.str "j",.str "/x"]]),a_ J4,a_ J1]:=⟨_,rfl⟩
 rw [← hρ]
 have q1:f2 neX (ag ar 5 (aa (fC (.int 2)) (aa (ac 0) (aa (ac 3) (aa (ci (aa (fC (.bl e_)) (aa (fC (.str "a.b")) (aa (fC (.str "/")) (aa (fC .non) ah))))) (aa (fC (.int 5)) ah)))))) (ac 3) ρ=bo f_ :=
  (bf (x:=J1) (y:=J1) (oK (w:=.int 2) (T:=.tup t) (J:=J1) (a:=A1) (b:=.int 5) rfl (by rw [hρ]; rfl) (by rw [hρ]; rfl) (by kernel_rfl) rfl (k1 ht)) (by rw [hρ]; rfl)).trans (by kernel_rfl)
 have q2:f2 eqX (ag ar 5 (aa (fC (.int 1)) (aa (ac 0) (aa (ac 2) (aa (ci (aa (fC (.bl e_)) (aa (fC (.str "a.b")) (aa (fC (.str "/x/y")) (aa (fC .non) ah))))) (aa (fC (.int 0)) ah)))))) (fC (.str "k=1; m=1; j=1; n=1")) ρ=bo e_ :=
  (bf (x:=.str "k=1; m=1; j=1; n=1") (y:=.str "k=1; m=1; j=1; n=1") (oK (w:=.int 1) (T:=.tup t) (J:=J4) (a:=A4) (b:=.int 0) rfl (by rw [hρ]; rfl) (by rw [hρ]; rfl) (by kernel_rfl) rfl (k4 ht)) rfl).trans (by kernel_rfl)
 rw [aA (cG (cW q1))]
 exact di q2)
end
section
variable {ns:List Int} {t:List Dv} {js:List aO} {now:Int} {a:Ask} {x3 x4 x5 x6 x7 x8 x9 x10 x11:Option Dv}
def E52 (ns:List Int) (t:List Dv) (js:List aO) (x3 x4 x5 x6 x7 x8 x9 x10 x11:Option Dv):Ev:=[a_ (.scr ns),a_ (.tup t),a_ (ej js),x3,x4,x5,x6,x7,x8,x9,x10,x11]
theorem Bp {xs:List aO} (hg:∀ o∈xs,Good o):neX (ej xs) (.tup [])=bo (!xs.isEmpty):=by
 cases xs with
 | nil=>kernel_rfl
 | cons o rest =>
  have i2:=(wW hg).okP (by omega)
  have i3:okP (.tup [])=e_:=by kernel_rfl
  have e0:eqS (ej (o :: rest)) (.tup [])=ck:=rfl
  unfold neX
  rw [e0,i2,i3]
  simp [ej,cy,toPys,Ge,Hb]
theorem lE (hl:ns.length≤63) (k:Int) (h:js≠[]):∃ n∈js,∃ d:Int,ae [.scr ns,.int k,.int js.length]=a_ (.ok (.int d))∧ixD (ej js) (.int d)=a_ (.ok (enc n)):=by
 have h0:0 < js.length:=List.length_pos_iff.mpr h
 obtain ⟨d,d0,d1,e⟩:=aL ns hl k js.length (by omega)
 obtain ⟨m,rfl⟩:∃ m:Nat,d=m:=⟨d.toNat,by omega⟩
 exact ⟨js[m]'(by omega),KC _,m,e,wX (by omega)⟩
def c3:FnB:=(fG (fB (f2 neX (ac 2) (ci ah))) (fB (f2 gtD (ag ae 3 (aa (ac 0) (aa (fC (.int 120)) (aa (fC (.int 4)) ah)))) (fC (.int 0)))))
def b3:FnS:=(aD (br 4 (f2 ixD (f2 ixD (ac 2) (ag ae 3 (aa (ac 0) (aa (fC (.int 121)) (aa (fB1 dg (aa (ac 2) ah)) ah))))) (fC (.int 2)))) (aD (br 5 (f2 ixD (f2 ixD (ac 2) (ag ae 3 (aa (ac 0) (aa (fC (.int 122)) (aa (fB1 dg (aa (ac 2) ah)) ah))))) (fC (.int 4)))) (aD (br 4 (f2 bM (f2 ixD (bW (aa (fC (.str "")) (aa (fC (.str "z.")) ah))) (ag ae 3 (aa (ac 0) (aa (fC (.int 123)) (aa (fC (.int 2)) ah))))) (ac 4))) (br 3 (ci (aa (f2 ixD (ac 3) (fC (.int 0))) (aa (ac 4) (aa (f2 ixD (bW (aa (ac 5) (aa (f2 bM (ac 5) (fC (.str "/y"))) ah))) (ag ae 3 (aa (ac 0) (aa (fC (.int 124)) (aa (fC (.int 2)) ah))))) (aa (f2 ixD (ac 3) (fC (.int 3))) ah)))))))))
theorem xt (hl:ns.length≤63) (J:Jar js) (ga:iX a):∃ a' y4 y5,iX a'∧aX c3 b3 (fun ρ=>a_ (.nx ρ)) (E52 ns t js (a_ (bP a)) ck ck ck ck ck ck ck ck)=a_ (.nx (E52 ns t js (a_ (bP a')) y4 y5 ck ck ck ck ck ck)):=by
 have jl:=J.l
 obtain ⟨d4,_,_,e4⟩:=aL ns hl 120 4 (by omega)
 have q1:fB (f2 neX (ac 2) (ci ah)) (E52 ns t js (a_ (bP a)) ck ck ck ck ck ck ck ck)=a_ (.ok (!js.isEmpty)):=cW ((bf (x:=ej js) (y:=.tup []) rfl (lR aI (by show 0≤100000; decide))).trans (Bp J.g))
 have q2:fB (f2 gtD (ag ae 3 (aa (ac 0) (aa (fC (.int 120)) (aa (fC (.int 4)) ah)))) (fC (.int 0))) (E52 ns t js (a_ (bP a)) ck ck ck ck ck ck ck ck)=a_ (.ok (t_ (d4 > 0))):=cW ((bf (x:=.int d4) (y:=.int 0) (jd ae rfl rfl rfl e4) rfl).trans rfl)
 have qc:c3 (E52 ns t js (a_ (bP a)) ck ck ck ck ck ck ck ck)=a_ (.ok (!js.isEmpty && t_ (d4 > 0))):=by
  unfold c3 fG
  rw [q1]
  cases js.isEmpty
  · exact q2
  · rfl
 cases hk:(!js.isEmpty && t_ (d4 > 0)) with
 | false =>
  rw [hk] at qc
  exact ⟨a,ck,ck,ga,cG qc⟩
 | true =>
  rw [hk] at qc
  rw [Dl qc]
  have hne:js≠[]:=by
   intro z
   rw [z] at hk
   cases hk
  have len:∀ {x4 x5:Option Dv},fB1 dg (aa (ac 2) ah) (E52 ns t js (a_ (bP a)) x4 x5 ck ck ck ck ck ck)=a_ (.ok (.int js.length)):=fun {x4 x5}=>(fH (am (x:=ej js) rfl aI)).trans (by show a_ (Rs.ok (Dv.int ((js.map enc).length:Int)))=_; rw [Gb])
  obtain ⟨n1,h1,d1,e1,i1⟩:=lE hl 121 hne
  obtain ⟨n2,h2,d2,e2,i2⟩:=lE hl 122 hne
  obtain ⟨d3,l3,u3,e3⟩:=aL ns hl 123 2 (by omega)
  obtain ⟨d5,l5,u5,e5⟩:=aL ns hl 124 2 (by omega)
  have g1:=J.g n1 h1
  have g2:=J.g n2 h2
  have he:=bg (p:=fun h=>jn EA (bM (.str "z.") (.str h)) && jn EA (bM (.str "") (.str h))) Bd g1.house
  rw [l_] at he
  obtain ⟨hz,mz,ez⟩:=w9 he.1
  obtain ⟨hy,my,ey⟩:=w9 he.2
  obtain ⟨pz,mp,ep⟩:=w9 (bg (p:=fun h=>jn pA (bM (.str h) (.str "/y"))) Be g2.path)
  obtain ⟨s,h,p,O⟩:=a
  obtain ⟨H,mH,eH⟩:∃ H∈EA,f2 bM (f2 ixD (bW (aa (fC (.str "")) (aa (fC (.str "z.")) ah))) (ag ae 3 (aa (ac 0) (aa (fC (.int 123)) (aa (fC (.int 2)) ah))))) (ac 4) (E52 ns t js (a_ (bP ⟨s,h,p,O⟩)) (a_ (.str n1.house)) (a_ (.str n2.path)) ck ck ck ck ck ck)=a_ (.ok (.str H)):=by
   have w:ag ae 3 (aa (ac 0) (aa (fC (.int 123)) (aa (fC (.int 2)) ah))) (E52 ns t js (a_ (bP ⟨s,h,p,O⟩)) (a_ (.str n1.house)) (a_ (.str n2.path)) ck ck ck ck ck ck)=a_ (.ok (.int d3)):=jd ae rfl rfl rfl e3
   rcases (by omega:d3=0∨d3=1) with rfl | rfl
   · exact ⟨hy,my,(bf (x:=.str "") (y:=.str n1.house) ((bf (x:=.lst [.str "",.str "z."]) (y:=.int 0) (by kernel_rfl) w).trans (by kernel_rfl)) rfl).trans ey⟩
   · exact ⟨hz,mz,(bf (x:=.str "z.") (y:=.str n1.house) ((bf (x:=.lst [.str "",.str "z."]) (y:=.int 1) (by kernel_rfl) w).trans (by kernel_rfl)) rfl).trans ez⟩
  obtain ⟨p',mp',eP⟩:∃ p'∈pA,f2 ixD (bW (aa (ac 5) (aa (f2 bM (ac 5) (fC (.str "/y"))) ah))) (ag ae 3 (aa (ac 0) (aa (fC (.int 124)) (aa (fC (.int 2)) ah)))) (E52 ns t js (a_ (bP ⟨s,h,p,O⟩)) (a_ (.str H)) (a_ (.str n2.path)) ck ck ck ck ck ck)=a_ (.ok (.str p')):=by
   have w:ag ae 3 (aa (ac 0) (aa (fC (.int 124)) (aa (fC (.int 2)) ah))) (E52 ns t js (a_ (bP ⟨s,h,p,O⟩)) (a_ (.str H)) (a_ (.str n2.path)) ck ck ck ck ck ck)=a_ (.ok (.int d5)):=jd ae rfl rfl rfl e5
   have u:bW (aa (ac 5) (aa (f2 bM (ac 5) (fC (.str "/y"))) ah)) (E52 ns t js (a_ (bP ⟨s,h,p,O⟩)) (a_ (.str H)) (a_ (.str n2.path)) ck ck ck ck ck ck)=a_ (.ok (.lst [.str n2.path,.str pz])):=pR (am (x:=.str n2.path) rfl (am (x:=.str pz) ((bf (x:=.str n2.path) (y:=.str "/y") rfl rfl).trans ep) aI)) (by show 2≤100000; decide)
   rcases (by omega:d5=0∨d5=1) with rfl | rfl
   · exact ⟨n2.path,Es g2.path,(bf u w).trans rfl⟩
   · exact ⟨pz,mp,(bf u w).trans rfl⟩
  refine ⟨⟨s,H,p',O⟩,a_ (.str H),a_ (.str n2.path),⟨mH,mp',ga.o⟩,?_⟩
  have w4:f2 ixD (f2 ixD (ac 2) (ag ae 3 (aa (ac 0) (aa (fC (.int 121)) (aa (fB1 dg (aa (ac 2) ah)) ah))))) (fC (.int 2)) (E52 ns t js (a_ (bP ⟨s,h,p,O⟩)) ck ck ck ck ck ck ck ck)=a_ (.ok (.str n1.house)) :=
   (bf (x:=enc n1) (y:=.int 2) ((bf (x:=ej js) (y:=.int d1) rfl (jd ae rfl rfl len e1)).trans i1) rfl).trans rfl
  have w5:f2 ixD (f2 ixD (ac 2) (ag ae 3 (aa (ac 0) (aa (fC (.int 122)) (aa (fB1 dg (aa (ac 2) ah)) ah))))) (fC (.int 4)) (E52 ns t js (a_ (bP ⟨s,h,p,O⟩)) (a_ (.str n1.house)) ck ck ck ck ck ck ck)=a_ (.ok (.str n2.path)) :=
   (bf (x:=enc n2) (y:=.int 4) ((bf (x:=ej js) (y:=.int d2) rfl (jd ae rfl rfl len e2)).trans i2) rfl).trans rfl
  unfold b3
  rw [aA (bB (ρ':=E52 ns t js (a_ (bP ⟨s,h,p,O⟩)) (a_ (.str n1.house)) ck ck ck ck ck ck ck) w4 rfl),aA (bB (ρ':=E52 ns t js (a_ (bP ⟨s,h,p,O⟩)) (a_ (.str n1.house)) (a_ (.str n2.path)) ck ck ck ck ck ck) w5 rfl),aA (bB (ρ':=E52 ns t js (a_ (bP ⟨s,h,p,O⟩)) (a_ (.str H)) (a_ (.str n2.path)) ck ck ck ck ck ck) eH rfl)]
  refine bB (d:=bP ⟨s,H,p',O⟩) ?_ rfl
  exact lR (am (x:=.bl s) rfl (am (x:=.str H) rfl (am (x:=.str p') eP (am (x:=O) rfl aI)))) (by show 4≤100000; decide)
theorem oM {l:List aO} (g:∀ n∈l,Good n) (hl:l.length≤18) (s:Nat) {acc:List aO} (ha:acc.length≤10000):aM (E52 ns t js x3 x4 x5 x6 (a_ (.lst (l.map enc))) (a_ (.lst (acc.map enc))) (a_ (.int s)) x10 x11)=a_ (.nx (E52 ns t js x3 x4 x5 x6 (a_ (.lst (l.map enc))) (a_ (.lst ((acc ++ l.filter fun n=>t_ (n.path.length=s)).map enc))) (a_ (.int s)) x10 x11)):=by
 have e:aN [("_law_size",9)] (cF (ac 7)) (a_ (fB (f2 eqX (fB1 dg (aa (f2 ixD (ac 0) (fC (.int 4))) ah)) (ac 1)))) (ac 0) (E52 ns t js x3 x4 x5 x6 (a_ (.lst (l.map enc))) (a_ (.lst (acc.map enc))) (a_ (.int s)) x10 x11)=a_ (.ok (.lst ((l.filter fun n=>t_ (n.path.length=s)).map enc))) :=
  iV enc (fun n=>t_ (n.path.length=s)) enc (mw rfl) (by omega) fun n hn=>⟨by
   have h:n.path.length≤100000:=by simpa using bg (p:=fun p:Str=>t_ (p.length≤100000)) rG (g n hn).path
   have e:dg [.str n.path]=a_ (.ok (.int (n.path.length:Int))):=by
    show (if n.path.length≤100000 then a_ (Rs.ok (Dv.int (n.path.length:Int))) else ck)=_
    rw [if_pos h]
   refine cW ((bf (x:=.int (n.path.length:Int)) (y:=.int s) ((fH (am (x:=.str n.path) rfl aI)).trans e) rfl).trans ?_)
   show a_ (Rs.ok (Dv.bl (t_ ((n.path.length:Int)=(s:Int)))))=_
   congr 4
   exact propext ⟨fun h=>by omega,fun h=>by omega⟩,rfl⟩
 have hf:=GD (fun n:aO=>t_ (n.path.length=s)) l
 unfold aM
 refine bB (d:=.lst ((acc ++ l.filter fun n=>t_ (n.path.length=s)).map enc)) ((bf (x:=.lst (acc.map enc)) (y:=.lst ((l.filter fun n=>t_ (n.path.length=s)).map enc)) rfl e).trans ?_) rfl
 show (if (acc.map enc).length + ((l.filter fun n=>t_ (n.path.length=s)).map enc).length≤100000 then a_ (Rs.ok (Dv.lst (acc.map enc ++ (l.filter fun n=>t_ (n.path.length=s)).map enc))) else ck)=_
 rw [if_pos (by simp only [Gb]; omega),HX]
theorem lF {l:List aO} (g:∀ n∈l,Good n) (hl:l.length≤18):∀ (S:List Nat) (acc:List aO) (y:Option Dv),acc.length + 18 * S.length≤10000→jI 9 [9] aM (S.map fun s=>Dv.int ((s:Nat):Int)) (E52 ns t js x3 x4 x5 x6 (a_ (.lst (l.map enc))) (a_ (.lst (acc.map enc))) y x10 x11)=a_ (.nx (E52 ns t js x3 x4 x5 x6 (a_ (.lst (l.map enc))) (a_ (.lst ((acc ++ bk S l).map enc))) ck x10 x11))
 | [],acc,y,_=>by
  show a_ (Fl.nx (fgt [9] (E52 ns t js x3 x4 x5 x6 (a_ (.lst (l.map enc))) (a_ (.lst (acc.map enc))) y x10 x11)))=_
  show a_ (Fl.nx (E52 ns t js x3 x4 x5 x6 (a_ (.lst (l.map enc))) (a_ (.lst (acc.map enc))) ck x10 x11))=_
  have:bk [] l=[]:=rfl
  rw [this,GE]
 | s :: S,acc,y,h=>by
  have hf:=GD (fun n:aO=>t_ (n.path.length=s)) l
  rw [Hc] at h
  have ih:=lF g hl S (acc ++ l.filter fun n=>t_ (n.path.length=s)) (a_ (.int s)) (by rw [Gs]; omega)
  show (match aM (E52 ns t js x3 x4 x5 x6 (a_ (.lst (l.map enc))) (a_ (.lst (acc.map enc))) (a_ (.int s)) x10 x11) with | some (.nx ρ')=>jI 9 [9] aM (S.map fun s=>Dv.int ((s:Nat):Int)) ρ' | o=>o)=_
  rw [oM g hl s (by omega)]
  refine ih.trans ?_
  rw [Ia]
  rfl
theorem xu {ρ:Ev}:cF (iG (fB1 jy (aa (fC (.int 30)) ah))) ρ=a_ (.ok (S30.map fun s=>Dv.int ((s:Nat):Int))):=by
 have e:fB1 jy (aa (fC (.int 30)) ah) ρ=a_ (.ok (.lst (rng 0 30))):=(fH (am (x:=.int 30) rfl aI)).trans (by
  show (if (0:Int)≤30∧(30:Int)≤64 then a_ (Rs.ok (Dv.lst (rng 0 (30:Int).toNat))) else ck)=_
  rw [if_pos (by omega)]; rfl)
 unfold cF iG
 rw [e]
 kernel_rfl
theorem BF {T Jx A N:Dv} {c:Nat} (W:∀ w:Nat,w < 3→ar [.int w,T,Jx,A,N]=a_ (.ok (rf c))) {cs:List (Str×Nat)} {f1 f2' f3 f4:FnE} {ρ:Ev} (h1:∀ w:Dv,f1 ((nZ cs ρ).set 0 (a_ w))=a_ (.ok T)) (h2:∀ w:Dv,f2' ((nZ cs ρ).set 0 (a_ w))=a_ (.ok Jx)) (h3:∀ w:Dv,f3 ((nZ cs ρ).set 0 (a_ w))=a_ (.ok A)) (h4:∀ w:Dv,f4 ((nZ cs ρ).set 0 (a_ w))=a_ (.ok N)) :
 aN cs (fun ρ=>bnd ((aa (fC (.int 3)) ah) ρ) iz) ck (ag ar 5 (aa (ac 0) (aa f1 (aa f2' (aa f3 (aa f4 ah)))))) ρ=a_ (.ok (.lst [rf c,rf c,rf c])):=by
 refine ef (fun i:Nat=>Dv.int (0 + (i:Int))) (fun _=>rf c) (l:=[0,1,2]) ?_ (by decide) fun i hi=>?_
 · have e3:(aa (fC (.int 3)) ah) ρ=a_ (.ok [.int ((3:Nat):Int)]):=am rfl aI
   exact (rn (k:=iz) e3).trans ((uL (n:=3) (by omega)).trans (by rw [ka]; rfl))
 · have hi3:i < 3:=by
    simp only [FB,Gx,or_false] at hi
    omega
   have v0:ac 0 ((nZ cs ρ).set 0 (a_ (Dv.int (0 + (i:Int)))))=a_ (.ok (.int i)):=by
    rw [Int.zero_add]; rfl
   exact oK v0 (h1 _) (h2 _) (h3 _) (h4 _) (W i hi3)
theorem xx:∀ d∈[Dv.int (-1),.int 10000,.non,.bl e_],aV [d]=bo f_:=by
 intro d hd
 simp only [FB,Gx,or_false] at hd
 rcases hd with rfl | rfl | rfl | rfl <;> kernel_rfl
theorem Fu:cQ [.tup [.bl a.s,.str a.h,.str a.p]]=bo f_:=by
 have e0:bw [.tup [.bl a.s,.str a.h,.str a.p],.int 4]=bo f_:=by kernel_rfl
 simp [cQ,aY,fm,aD,sq,aX,aC,cg,bnd,bL,fB,toB,ag,aa,ah,ac,fC,e0]
theorem DR (ds:List Dv):dP [.lst ds]=bo f_:=by simp [dP,aY,fq,aD,sq,aX,aC,cg,bnd,bOr,bL,fB,toB,ag,aa,ah,ac,fC,f1,dh,cx]
theorem xz (ds:List Dv):bN [.lst ds]=bo f_:=by simp [bN,aY,fu,aD,sq,aX,aC,cg,bnd,bOr,bL,fB,toB,ag,aa,ah,ac,fC,f1,dh,cx]
theorem DS {n:aO} (g:Good n) (h1:0≤now) (h2:now≤9999):Good (usd n now) where
 nm:=g.nm
 w:=g.w
 house:=g.house
 path:=g.path
 R:=g.R
 ends:=g.ends
 mk0:=g.mk0
 mu:=by have:=g.mu; show n.md≤if now > n.us then now else n.us; split <;> omega
 us:=by have:=g.us; show (if now > n.us then now else n.us)≤9999; split <;> omega
theorem Bq (J:Jar js) (h1:0≤now) (h2:now≤9999):∀ m∈usj t js a now,Good m:=fun m hm=>by
 obtain ⟨n,hn,rfl⟩:=G0.mp hm
 split
 · exact DS (J.g n hn) h1 h2
 · exact J.g n hn
theorem rL (ht:t∈gZ rules) (J:Jar js) (ga:iX a) (h1:0≤now) (h2:now≤9999):((fB1 eK (aa (aN [("_law_now",6),("_law_going",7)] (cF (ac 2)) ck (fIf (fB (f2 inX (ac 0) (ac 2))) (f2 bM (jR (ac 0) fA (eG (fC (.int 9)))) (ci (aa (fB1 xI (aa (f2 ixD (ac 0) (fC (.int 9))) (aa (ac 1) ah))) ah))) (ac 0))) ah))) (E52 ns t js x3 x4 x5 (a_ (.int now)) (a_ (.lst ((gon t js a now).map enc))) x8 x9 x10 x11)=a_ (.ok (ej (usj t js a now))):=by
 have jl:=J.l
 have e:aN [("_law_now",6),("_law_going",7)] (cF (ac 2)) ck (fIf (fB (f2 inX (ac 0) (ac 2))) (f2 bM (jR (ac 0) fA (eG (fC (.int 9)))) (ci (aa (fB1 xI (aa (f2 ixD (ac 0) (fC (.int 9))) (aa (ac 1) ah))) ah))) (ac 0)) (E52 ns t js x3 x4 x5 (a_ (.int now)) (a_ (.lst ((gon t js a now).map enc))) x8 x9 x10 x11)=a_ (.ok (.lst (js.map fun n=>enc (if go t n a now=e_ then usd n now else n)))) :=
  ef enc (fun n=>enc (if go t n a now=e_ then usd n now else n)) (jA rfl) (by omega) fun n hn=>by
   show fIf _ _ _ [a_ (enc n),a_ (.int now),a_ (.lst ((gon t js a now).map enc))]=_
   have q:fB (f2 inX (ac 0) (ac 2)) [a_ (enc n),a_ (.int now),a_ (.lst ((gon t js a now).map enc))]=a_ (.ok (go t n a now)):=by
    have i:=(Bl (J.g n hn) (fun m hm=>J.g m (Gj.mp hm).1) (l:=gon t js a now)).1
    have e:t_ (n∈gon t js a now)=go t n a now:=by
     rw [Gp,decide_eq_true_eq]
     exact ⟨fun h=>(Gj.mp h).2,fun h=>Gj.mpr ⟨hn,h⟩⟩
    rw [e] at i
    exact cW ((bf (x:=enc n) (y:=.lst ((gon t js a now).map enc)) rfl rfl).trans i)
   cases hg:go t n a now with
   | true=>rw [hg] at q; rw [zi q,if_pos rfl]; rfl
   | false=>rw [hg] at q; rw [zj q,if_neg (by decide)]; rfl
 refine (fH (am e aI)).trans ?_
 show a_ (Rs.ok (Dv.tup (js.map fun n=>enc (if go t n a now=e_ then usd n now else n))))=_
 unfold ej usj
 rw [Io]; rfl
theorem mC (ns:List Int) (hl:ns.length≤63):cR [.scr ns]=bo e_:=by
 obtain ⟨t,ht,eT⟩:=nK ns hl
 obtain ⟨js,jn,eJ,J,hjl,_⟩:=AZ ns hl 10 6 (by omega)
 obtain ⟨s0,h0,p0,O0,m1,m2,m3,eA⟩:=tP ns hl 110
 obtain ⟨now,a1,b1,e1⟩:=aL ns hl 125 60 (by omega)
 obtain ⟨dd,a2,b2,e2⟩:=aL ns hl 126 4 (by omega)
 have gj:=J.g
 have jl:=J.l
 obtain ⟨a,y4,y5,ga,eI⟩:=xt (t:=t) hl J (a:=⟨s0,h0,p0,O0⟩) ⟨Er m1,Es m2,m3⟩
 unfold c3 b3 at eI
 have hgl:(gon t js a now).length≤js.length:=GD _ _
 have gg:∀ n∈gon t js a now,Good n:=fun n hn=>gj n (Gj.mp hn).1
 have sg:=ua (t:=t) (now:=now) J (a:=a)
 have sl:=xo (t:=t) (now:=now) J (a:=a)
 have h9:now≤9999:=by omega
 refine ei ?_
 show cw [a_ (.scr ns),ck,ck,ck,ck,ck,ck,ck,ck,ck,ck,ck]=_
 unfold cw
 rw [aA (bB (ρ':=[a_ (.scr ns),a_ (.tup t),ck,ck,ck,ck,ck,ck,ck,ck,ck,ck]) (fN bt rfl rfl eT) rfl),aA (bB (ρ':=E52 ns t js ck ck ck ck ck ck ck ck ck) (jd fz rfl rfl rfl eJ) rfl),
  aA (bB (ρ':=E52 ns t js (a_ (bP ⟨s0,h0,p0,O0⟩)) ck ck ck ck ck ck ck ck) (fN fw rfl rfl eA) rfl),aA eI,
  aA (bB (ρ':=E52 ns t js (a_ (bP a)) y4 y5 (a_ (.int now)) ck ck ck ck ck) (jd ae rfl rfl rfl e1) rfl)]
 have w7:(aN [("_law_table_here",1),("_law_ask_here",3),("_law_now",6)] (cF (ac 2)) (a_ (fB (ag cD 4 (aa (ac 1) (aa (ac 0) (aa (ac 2) (aa (ac 3) ah))))))) (ac 0)) (E52 ns t js (a_ (bP a)) y4 y5 (a_ (.int now)) ck ck ck ck ck)=a_ (.ok (.lst ((gon t js a now).map enc))) :=
  iV enc (fun n=>go t n a now) enc (jA rfl) (by omega) fun n hn=>⟨cW (xj cD rfl rfl rfl rfl (kf ht (gj n hn) ga now).2),rfl⟩
 rw [aA (bB (ρ':=E52 ns t js (a_ (bP a)) y4 y5 (a_ (.int now)) (a_ (.lst ((gon t js a now).map enc))) ck ck ck ck) w7 rfl),
  aA (bB (ρ':=E52 ns t js (a_ (bP a)) y4 y5 (a_ (.int now)) (a_ (.lst ((gon t js a now).map enc))) (a_ (.lst (([]:List aO).map enc))) ck ck ck) (d:=.lst []) (by kernel_rfl) rfl)]
 have w8:sf 9 [9] (cF (iG (fB1 jy (aa (fC (.int 30)) ah)))) aM (E52 ns t js (a_ (bP a)) y4 y5 (a_ (.int now)) (a_ (.lst ((gon t js a now).map enc))) (a_ (.lst (([]:List aO).map enc))) ck ck ck)=a_ (.nx (E52 ns t js (a_ (bP a)) y4 y5 (a_ (.int now)) (a_ (.lst ((gon t js a now).map enc))) (a_ (.lst ((snt (gon t js a now)).map enc))) ck ck ck)):=by
  rw [vP xu,lF gg (by omega) S30 [] ck (by decide),uR s30 fun n hn=>Bo (gg n hn)]
  rfl
 rw [aA w8]
 obtain ⟨ρ,hρ⟩:∃ ρ:Ev,ρ=E52 ns t js (a_ (bP a)) y4 y5 (a_ (.int now)) (a_ (.lst ((gon t js a now).map enc))) (a_ (.lst ((snt (gon t js a now)).map enc))) ck ck ck:=⟨_,rfl⟩
 rw [← hρ]
 have c8:(fB (f2 neX (ag ar 5 (aa (fC (.int 0)) (aa (ac 1) (aa (ac 2) (aa (ac 3) (aa (ac 6) ah)))))) (ac 8))) ρ=a_ (.ok f_) :=
  cW ((bf (x:=.lst ((snt (gon t js a now)).map enc)) (oK rfl (by rw [hρ]; rfl) (by rw [hρ]; rfl) (by rw [hρ]; rfl) (by rw [hρ]; rfl) (rE (w:=0) rfl (rH ht J ga a1 h9))) (by rw [hρ]; rfl)).trans (q9 ((mx sg).okP (by omega)) (mx sg).p))
 have c9:(fB (f2 neX (ag ar 5 (aa (fC (.int 1)) (aa (ac 1) (aa (ac 2) (aa (ac 3) (aa (ac 6) ah)))))) (fM (gm) (fC (.str "; ")) (aa (aN [] (cF (ac 8)) ck (f2 bM (f2 bM (f2 ixD (ac 0) (fC (.int 0))) (fC (.str "="))) (f2 ixD (ac 0) (fC (.int 1))))) ah)))) ρ=a_ (.ok f_):=by
  have e:(aN [] (cF (ac 8)) ck (f2 bM (f2 bM (f2 ixD (ac 0) (fC (.int 0))) (fC (.str "="))) (f2 ixD (ac 0) (fC (.int 1))))) ρ=a_ (.ok (.lst ((snt (gon t js a now)).map fun n=>Dv.str (pc n)))) :=
   ef enc (fun n=>Dv.str (pc n)) (mw (by rw [hρ]; rfl)) (by omega) fun n hn=>(bf (g:=bM) (x:=.str (n.nm ++ b_ "=")) (y:=.str n.w) ((bf (g:=bM) (x:=.str n.nm) (y:=.str (b_ "=")) rfl rfl).trans (tZ (sg n hn)).1) rfl).trans (tZ (sg n hn)).2
  have e':fM (gm) (fC (.str "; ")) (aa (aN [] (cF (ac 8)) ck (f2 bM (f2 bM (f2 ixD (ac 0) (fC (.int 0))) (fC (.str "="))) (f2 ixD (ac 0) (fC (.int 1))))) ah) ρ=a_ (.ok (.str (txt (snt (gon t js a now))))):=by
   unfold fM
   show bnd (aa _ ah _) (fun xs=>gm (b_ "; ") xs)=_
   rw [am e aI]
   exact uP sg (by omega)
  refine cW ((bf (x:=.str (txt (snt (gon t js a now)))) (oK rfl (by rw [hρ]; rfl) (by rw [hρ]; rfl) (by rw [hρ]; rfl) (by rw [hρ]; rfl) (rE (w:=1) rfl (xp ht J ga a1 h9))) e').trans ?_)
  show a_ (Rs.ok (Dv.bl (!seq _ _)))=_
  rw [tQ]; rfl
 rw [aA (cG c8),aA (cG c9)]
 subst hρ
 rw [aA (bB (ρ':=E52 ns t js (a_ (bP a)) y4 y5 (a_ (.int now)) (a_ (.lst ((gon t js a now).map enc))) (a_ (.lst ((snt (gon t js a now)).map enc))) ck (a_ (ej (usj t js a now))) ck) (rL ht J ga a1 h9) rfl)]
 have c11:(fB (f2 neX (ag ar 5 (aa (fC (.int 2)) (aa (ac 1) (aa (ac 2) (aa (ac 3) (aa (ac 6) ah)))))) (ac 10))) (E52 ns t js (a_ (bP a)) y4 y5 (a_ (.int now)) (a_ (.lst ((gon t js a now).map enc))) (a_ (.lst ((snt (gon t js a now)).map enc))) ck (a_ (ej (usj t js a now))) ck)=a_ (.ok f_) :=
  cW ((bf (x:=ej (usj t js a now)) (oK rfl rfl rfl rfl rfl (rE (w:=2) rfl (xq ht J ga a1 h9))) rfl).trans (q9 ((wW (Bq J a1 h9)).okP (by omega)) (wW (Bq J a1 h9)).p))
 rw [aA (cG c11)]
 obtain ⟨od,mo,eo⟩:=ly (l:=[Dv.int (-1),.int 10000,.non,.bl e_]) (d:=dd) a2 (by show dd < 4; omega)
 have w11:(f2 ixD (bW (aa (f1 pK (fC (.int 1))) (aa (fC (.int 10000)) (aa (fC .non) (aa (fC (.bl e_)) ah))))) (ag ae 3 (aa (ac 0) (aa (fC (.int 126)) (aa (fC (.int 4)) ah))))) (E52 ns t js (a_ (bP a)) y4 y5 (a_ (.int now)) (a_ (.lst ((gon t js a now).map enc))) (a_ (.lst ((snt (gon t js a now)).map enc))) ck (a_ (ej (usj t js a now))) ck)=a_ (.ok od) :=
  (bf (x:=.lst [Dv.int (-1),.int 10000,.non,.bl e_]) (y:=.int dd) (by kernel_rfl) (jd ae rfl rfl rfl e2)).trans eo
 have hod:=DI (xx od mo)
 have hT:=BE (gC ht)
 have hJ:=Et (Bc J)
 rw [aA (bB (ρ':=E52 ns t js (a_ (bP a)) y4 y5 (a_ (.int now)) (a_ (.lst ((gon t js a now).map enc))) (a_ (.lst ((snt (gon t js a now)).map enc))) ck (a_ (ej (usj t js a now))) (a_ od)) w11 rfl)]
 obtain ⟨ρ,hρ⟩:∃ ρ:Ev,ρ=E52 ns t js (a_ (bP a)) y4 y5 (a_ (.int now)) (a_ (.lst ((gon t js a now).map enc))) (a_ (.lst ((snt (gon t js a now)).map enc))) ck (a_ (ej (usj t js a now))) (a_ od):=⟨_,rfl⟩
 rw [← hρ]
 have q13:(aN [("_law_table_here",1),("_law_jar_here",2),("_law_ask_here",3),("_law_odd",11)] (fun ρ=>bnd ((aa (fC (.int 3)) ah) ρ) iz) ck (ag ar 5 (aa (ac 0) (aa (ac 1) (aa (ac 2) (aa (ac 3) (aa (ac 4) ah))))))) ρ=a_ (.ok (.lst [rf 6,rf 6,rf 6])):=BF (T:=.tup t) (Jx:=ej js) (A:=bP a) (N:=od) (c:=6) (fun w hw=>tX hw (DN hT hJ (Eu (Bi ga)) hod) (by simp)) (fun _=>by rw [hρ]; rfl) (fun _=>by rw [hρ]; rfl) (fun _=>by rw [hρ]; rfl) (fun _=>by rw [hρ]; rfl)
 have q14:(aN [("_law_table_here",1),("_law_jar_here",2),("_law_ask_here",3),("_law_odd",11)] (fun ρ=>bnd ((aa (fC (.int 3)) ah) ρ) iz) ck (ag ar 5 (aa (ac 0) (aa (ac 1) (aa (ac 2) (aa (jR (ac 3) fA (eG (fC (.int 3)))) (aa (ac 4) ah))))))) ρ=a_ (.ok (.lst [rf 3,rf 3,rf 3])):=BF (T:=.tup t) (Jx:=ej js) (A:=.tup [.bl a.s,.str a.h,.str a.p]) (N:=od) (c:=3) (fun w hw=>tX hw (DM hT hJ (Fp Fu)) (by simp)) (fun _=>by rw [hρ]; rfl) (fun _=>by rw [hρ]; rfl) (fun _=>by rw [hρ]; rfl) (fun _=>by rw [hρ]; rfl)
 have q15:(aN [("_law_table_here",1),("_law_jar_here",2),("_law_ask_here",3),("_law_odd",11)] (fun ρ=>bnd ((aa (fC (.int 3)) ah) ρ) iz) ck (ag ar 5 (aa (ac 0) (aa (ac 1) (aa (fB1 kK (aa (ac 2) ah)) (aa (jR (ac 3) fA (eG (fC (.int 3)))) (aa (ac 4) ah))))))) ρ=a_ (.ok (.lst [rf 5,rf 5,rf 5])):=BF (T:=.tup t) (Jx:=.lst (js.map enc)) (A:=.tup [.bl a.s,.str a.h,.str a.p]) (N:=od) (c:=5) (fun w hw=>tX hw (DK hT (Fm (DR _))) (by simp)) (fun _=>by rw [hρ]; rfl) (fun _=>by rw [hρ]; rfl) (fun _=>by rw [hρ]; rfl) (fun _=>by rw [hρ]; rfl)
 have q16:(aN [("_law_table_here",1),("_law_jar_here",2),("_law_ask_here",3),("_law_odd",11)] (fun ρ=>bnd ((aa (fC (.int 3)) ah) ρ) iz) ck (ag ar 5 (aa (ac 0) (aa (fB1 kK (aa (ac 1) ah)) (aa (fB1 kK (aa (ac 2) ah)) (aa (ac 3) (aa (ac 4) ah))))))) ρ=a_ (.ok (.lst [rf 1,rf 1,rf 1])):=BF (T:=.lst t) (Jx:=.lst (js.map enc)) (A:=bP a) (N:=od) (c:=1) (fun w hw=>tX hw (DJ (Fk (xz _))) (by simp)) (fun _=>by rw [hρ]; rfl) (fun _=>by rw [hρ]; rfl) (fun _=>by rw [hρ]; rfl) (fun _=>by rw [hρ]; rfl)
 rw [aA (cG (cW ((bf (x:=.lst [rf 6,rf 6,rf 6]) (y:=.lst [rf 6,rf 6,rf 6]) q13 (by kernel_rfl)).trans (by kernel_rfl)))),
  aA (cG (cW ((bf (x:=.lst [rf 3,rf 3,rf 3]) (y:=.lst [rf 3,rf 3,rf 3]) q14 (by kernel_rfl)).trans (by kernel_rfl)))),
  aA (cG (cW ((bf (x:=.lst [rf 5,rf 5,rf 5]) (y:=.lst [rf 5,rf 5,rf 5]) q15 (by kernel_rfl)).trans (by kernel_rfl))))]
 exact di ((bf (x:=.lst [rf 1,rf 1,rf 1]) (y:=.lst [rf 1,rf 1,rf 1]) q16 (by kernel_rfl)).trans (by kernel_rfl))
end
theorem uc (ns:List Int) (hl:ns.length≤63):qZ [.scr ns]=a_ (.ok (.bl e_)):=by
 obtain ⟨t,ht,eT⟩:=nK ns hl
 refine ei ?_
 show qY [a_ (.scr ns)]=_
 unfold qY ms
 have e1:ag bz 1 (aa (ag bt 2 (aa (ac 0) (aa (fC (.int 0)) ah))) ah) [a_ (.scr ns)]=bo e_:=og bz (fN bt rfl rfl eT) (ub ht)
 refine di ?_
 rw [uz e1]
 exact og cR rfl (mC ns hl)
end G
namespace G
open PySem PySem.Spec PyProof.Rows L2 FD
theorem walk {l:Jt} {q:n_} {loose:List Str} {XP:(Str→Option d_)→FF→Prop} {YP:y_→FF→Prop} {d:DefRec} {K:Je→c_} {Pt:i_} (hn:l.most=a_ 63) (hdf:d.params.defaults=[])
 (hY:∀ (w:y_) (h:FF),YP w h→(K w.params).In h) (hYT:∀ (w:y_) (h:FF),YP w h→h.get? Pt=a_ { cls:=.none,data:=.fields #[] }∧Le h Pt∧(K w.params).lookup Pt=ck)
 (F:∀ (w:y_) (mg:Str→Option d_) (fa:i_) (h:FF),(K w.params).In h→h.Ns rl mg→mg d.name=a_ (.ref fa) →
   ∃ fd:F8,(∀ (s:ge) (u:d_),Ji s fd ⟨[u],[]⟩ [("_law_script",u)])∧∀ base:FF,(K w.params).In base→base.Ns rl mg→FnOk l.prog w (K w.params) mg base CX0 12 fa fd ["_law_script"] (spT Pt qL (K w.params) qZ 1)) :
 LJ q loose XP YP l.row.toRowW d [] (fun f vs=>LO f vs) :=
 tJ (n:=63) (k:=12) (x:="_law_script") (CX:=fun _=>CX0) (sp:=fun w=>spT Pt qL (K w.params) qZ 1) hn (by decide) hdf ⟨rfl,by decide,by decide⟩ hY hYT F
  (fun _ _ a ns hl hS hT=>⟨hT,[.scr ns],⟨.ref a,[],rfl,⟨a,rfl,hS⟩,rfl⟩,rfl,by rw [uc ns hl]; exact fun v H' _ r=>r⟩) fun _ _ _ _ _ z=>z
end G
open PySem PySem.W PyProof.Rows
set_option maxRecDepth 100000 in
theorem PySem.Challenge.cw_notejar_k52_sent_holds : PySem.Challenge.rw_notejar_k52_sent.Holds := by
 refine G.hld fun said=>?_
 refine PySem.W.holds_open (q:=G.VQ) (loose:=G.VL) (Xt:=fun s=>recOk [] s) (XP:=fun _ _=>True) (Yf:=Hook.obs (MZ G.KK G.KA G.KA_ok)) (Ya:=Hook.val (MZ G.KK G.KA G.KA_ok)) (YP:=Hook.says (MZ G.KK G.KA G.KA_ok)) (N:=7684) G.left (Hook.of (MZ G.KK G.KA G.KA_ok)) (Hook.keeps (MZ G.KK G.KA G.KA_ok)) (fun _ _=>trivial) (fun _ _ _ _ _=>trivial) (by rfl) (by rfl) (by rfl) (fun s e=>recFacts_of e) (by rfl) (by first | assumption | decide +kernel) (by decide +kernel) G.hbr ?hw ?hc
 (case hw=>w_witness2)
 refine G.walk (l:=PySem.Challenge.rw_notejar_k52_sent) rfl rfl (K:=G.KL) (Pt:=342) (fun w h Y=>G.KL_in (Li Y)) (fun w h Y=>⟨G.KT_in (Li Y),FD.ctB_tab (f:=345) (G.KL_in (Li Y)) (by kernel_rfl),by kernel_rfl⟩) ?F
 case F =>
  intro w mg fa h KX hG hmg
  exact G.all_mk (C0:=37) (C1:=49) (C2:=61) (C3:=73) (C4:=85) (C5:=97) (C6:=109) (CJ:=24) KX hG hmg (G.af 471 "law_notejar_k52_sent" 679 470) (G.af 173 "notejar.names" 344 172) (G.af 180 "notejar.names" 344 179) (G.af 187 "notejar.names" 344 186) (G.af 194 "notejar.names" 344 193) (G.af 201 "notejar.names" 344 200) (G.af 257 "notejar.asks" 460 256) (G.af 297 "notejar.notes" 550 296) (G.af 168 "notejar.names" 344 167) (G.af 304 "notejar.notes" 550 303) (G.af 215 "notejar.paths" 439 214) (G.af 311 "notejar.notes" 550 310) (G.af 116 "notejar.kinds" 319 115) (G.af 137 "notejar.names" 344 136) (G.af 142 "notejar.names" 344 141) (G.af 208 "notejar.paths" 439 207) (G.af 130 "notejar.kinds" 319 129) (G.af 243 "notejar.asks" 460 242) (G.af 250 "notejar.asks" 460 249) (G.af 290 "notejar.notes" 550 289) (G.af 326 "notejar.jars" 614 325) (G.af 321 "notejar.jars" 614 320) (G.af 123 "notejar.kinds" 319 122) (G.af 222 "notejar.asks" 460 221) (G.af 229 "notejar.asks" 460 228) (G.af 264 "notejar.giving" 520 263) (G.af 276 "notejar.giving" 520 275) (G.af 269 "notejar.giving" 520 268) (G.af 283 "notejar.notes" 550 282) (G.af 316 "notejar.jars" 614 315) (G.af 333 "notejar.jars" 614 332) (G.af 236 "notejar.asks" 460 235) (G.af 149 "notejar.names" 344 148) (G.af 154 "notejar.names" 344 153) (G.af 161 "notejar.names" 344 160) (G.af 340 "notejar.jars" 614 339) (G.af 345 "notejar.jars" 614 344) (G.af 350 "notejar.jars" 614 349) (G.af 362 "notejar.jars" 614 361) (G.af 355 "notejar.jars" 614 354) (G.af 478 "law_notejar_k52_sent" 679 477) (G.af 483 "law_notejar_k52_sent" 679 482) (G.af 369 "law_notejar_k52_sent" 679 368) (G.af 376 "law_notejar_k52_sent" 679 375) (G.af 383 "law_notejar_k52_sent" 679 382) (G.af 395 "law_notejar_k52_sent" 679 394) (G.af 402 "law_notejar_k52_sent" 679 401) (G.af 407 "law_notejar_k52_sent" 679 406) (G.af 412 "law_notejar_k52_sent" 679 411) (G.af 417 "law_notejar_k52_sent" 679 416) (G.af 438 "law_notejar_k52_sent" 679 437) (G.af 431 "law_notejar_k52_sent" 679 430) (G.af 424 "law_notejar_k52_sent" 679 423) (G.af 459 "law_notejar_k52_sent" 679 458) (G.af 464 "law_notejar_k52_sent" 679 463) (G.af 388 "law_notejar_k52_sent" 679 387) (G.af 488 "law_notejar_k52_sent" 679 487) (G.af 495 "law_notejar_k52_sent" 679 494) (by kernel_rfl) (by kernel_rfl) (by kernel_rfl) (by kernel_rfl)
#print axioms PySem.Challenge.cw_notejar_k52_sent_holds
