import PyProof.Rows.All
import Wide.All
import OpenK.AllK
import Wide.FinOn
import Lean
import PyProof.EqAt
import PyProof.EqKinds
import PyProof.TupleCall
import PySem.SetTable
import PyProof.SetKind
import PyProof.TupleKey
import PyProof.DictKinds
import PyProof.Rows.SetFrom
import PyProof.ZipIter
import PyProof.Conv_int
import PyProof.FactsAll.str
import PyProof.EnumIter
import PyProof.Rows.SortStr
import PyProof.Rows.SortWalk
import PyProof.Rows.MinMaxN
import PyProof.ConsumeWalk
import PyProof.CollectWalk
import PyProof.WalksMore
import PyProof.CollectStr
import PyProof.Rows.SortShellK
import PyProof.Rows.SortRunsK
import KE.KSortKey
import PyProof.Rows.CallKwBuiltin
import PyProof.SumAny
import PyProof.SeqI3
import PySem.Challenge.RW_notejar_k60_room
open PySem.Str renaming ofString → a_, empty → PK
open PySem renaming wpAny_bind → b_, Shared → c_, wpAny_pure → d_, starEach → f_, wpAny → k_, model → p_, Around → w_, mainGlobals → C_, World → D_, backTo → Ho, foldedSetIterable → Hr, compareOp → Hu, behindInMarks → Hw, wpAny_newObj_type → Hy, wpAny_mono → HI, wpAny_callSpecial?_slot → HJ, cellsFrom → HK, wpAny_setState_of → HM, swapsWith → HR, wpAny_call_entry → HS, wpAny_setField_rec → HW, wpAny_holding → HX, strKind → HY, codeAny_builtin → Ic, assignEach → Ie, keywordEach → Io, bootBuiltins → Iq, FuncData → Iu, wpAny_Call_Name_kw → Ix, wpAny_field → IL, rawInt → IT, attributeBase → IU, Keyword → Jc, binaryOp → Jd, wpAny_attempt → Jg, codeAny_mono → Jh, wpAny_truthy_bool → Jl, backToKw → Jn, Builtin → Jw, wpAny_passesOwn → JC, wpAny_typeOf → JH, wpAny_of_eq → JJ, codeAny_call_builtin → JK, wpAny_rule → JP, call_meets → JQ, wpAny_setEntries_of → JX, mem_of_lookup → JY, wpAny_getItem_str_slice → JZ, wpAny_askSetting → J0, NameKind → Kb, codeAny → Ki, pyNext → Kw, wpAny_seqItems → KL, firstArgMember → KM, closureFor → KN, wpAny_pyIter_tuple → La, wpAny_call → Lb, typeIs_str → Lc, sliceBounds → Lg, PassesOwn → Li, wpAny_storeSet_of → Lm, wpAny_runValue → Ln, wpAny_pyIter_list → Lo, wpAny_pyIter_enum → Lp, wpAny_setFlight_noneW → LG, weight_type_call_type → LH, wpAny_isInstance → LL, wpAny_forIn_list → LM, plainId_quiet → LO, sizeLine_eq → LV, wpAny_execs_nil → LY, post_val_or_str → LZ, letOwnedTupleGo → L4, codeAny_of_tree → L5, pickOrder → Mf, wpAny_newFunctionEnv_cells → Mh, wpAny_letOwnedTupleGo_enum → Mi, wpAny_fieldsOf → Mj, assign → Ml, GenState → Mn, wpAny_loadPart_at → MB, Model → MD, BindsTo → MG, wpAny_newList → MM, wpAny_comprehension_free → MN, setSearchFrom → MO, relayAll → MR, putSet_of → MS, noFill_tuple_add → MT, check_set_init_1 → MU, setNext → Na, setAddHashed → Nb, notedBy → Nc, getItem → Nd, Result → Ng, IsPart → Nh, IsEnum → Ni, wpAny_eqIsQuiet_tuple → Nt, codeAny_call_function → Nu, builtinLookup_eq_fast → Nv, unsupported → Nz, setAddHashedIn → NA, newFunctionEnv → NB, lookup_relabel_local → NC, isSubtype_type → ND, isSubtype_stop → NE, Params → NH, treeTable → NV, callerA → NW, wpAny_handled → N4, seq_tuple_add → N5, typeOf → N_, typeIs_int → Oa, setsByText → Ob, pyIter → Oc, builtinsNs → Oe, newTuple → Ot, list_append → Ou, concat_meets → Ov, compEnvC → Ow, noteFrame → OP, Fin → OX, wpAny_throw → O9, subscripted → O_, strIterType → Pb, spliced → Pk, holding → Pl, storeSet → Pn, slotArgs → Po, field → Pp, call → Pq, boot_len → Pr, bindL → Ps, bindC → Pt, again → Pu
open PySem.W renaming Frag → ck, kia_one → IA, keepIn → IE, hideAll_none → IM, emptyDict → IX, nsIn → Jp, instObj → JD, kitOne → J_, of_hideAll → Kj, fnOf → Kk, mg_of → K3, findIn → Lq, cellsFrom_some → Lr, hideAll_get → Ma, codeIn → Mm, methodObj → MC, OpenLaw → No, lookIn → NF, excIn → N6, codeRec_of → Of, callWith_K → Og, specialIn → Ox, openEnds → Oy, looks_findIn → Oz, kitx_list → OA, kitx_dict → OB, plainGet → OQ, hideAll → Pg, WalkO → PB, kHook → PJ, isFn → PP
open PySem.Heap renaming get?_push_of_some → e_, get?_push_size → i_, lt_size → o_, size_push → F_, SameBut → Ir, get?_update_ne → Jb, get?_update_self → Je, get?_update_other → Kl, get?_none_of_le → LW, ExtBut → NI, get?_push_ne → OE, size_update → OW
open List renaming mem_cons_self → g_, range → h_, mem_cons_of_mem → l_, mem_cons → on, replicate → q_, mem_append_right → r_, getElem?_set_ne → s_, size_toArray → uk, getElem?_eq_getElem → u_, getElem?_eq_some_iff → v_, map_cons → y_, getElem?_set_self → B_, pairwise_cons → G_, not_mem_nil → Hn, mem_append_left → Hv, getElem?_map → Hz, mem_append → HC, length_set → HE, length_map → HF, lookup_cons → HL, mem_filter → HU, all_eq_true → HV, mem_singleton → Ih, length_cons → Il, all_cons → Im, length_filter_le → Ip, mem_map → Iv, set_cons_zero → Iy, set_cons_succ → Iz, map_map → IC, replicate_succ → ID, mem_range → IF, length_append → II, length_eq_zero_iff → IQ, getElem?_append_right → I_, getElem?_eq_none → Jf, mem_of_getElem? → Jk, getElem_mem → Ju, length_replicate → Jy, getElem?_append_left → JB, append_nil → JF, reverse_cons → JM, flatten_cons → JN, length_erase_of_mem → JW, getElem?_replicate → Kf, getD → Kg, countP_cons → Kh, range_succ_eq_map → Kp, lookup_append → Kq, nodup_cons → Kt, length_range → KC, filter_congr → KD, append_assoc → KG, mem_iff_getElem → KR, getD_eq_getElem?_getD → KS, pairwise_iff_getElem → KW, map_congr_left → KZ, getElem?_range → K0, filter_sublist → K1, filterMap_cons → K2, map_append → K_, getElem?_cons_succ → Lk, mem_of_mem_erase → LJ, drop_length → LN, any_cons → LU, of_mem_zip → L8, foldl_cons → L9, toList_toArray → Mb, filter_eq_self → Mc, perm_append_singleton → Mw, mem_filterMap → Mx, length_eraseIdx_of_lt → My, filterMap_map → Mz, pairwise_map → MH, any_eq_false → MI, length_take → M7, filter_cons_of_pos → M8, filter_cons_of_neg → M9, ext_getElem → M_, pairwise_lt_range → Nn, range_succ → Np, length_singleton → Nx, countP_eq_length → Ny, not_lt → NO, mem_erase_of_ne → NP, forIn_nil → NQ, getElem_range → Om, foldl → On, filter_filter → Oo, mapM_toArray → OK, getElem_take → OL, ext_getElem? → OM, all_map → ON, nodup_range → O2, length_drop → O3, le_antisymm → O4, getElem_zip → O5, getElem_map → O6, getElem_inj → O7, filter_cons → O8, length → Pe, nil_append → Ph, forIn_cons → Pi, countP_map → Pj
open Bool renaming and_eq_true → j_, false_ne_true → pi, false_eq_true → rl, eq_iff_iff → HG, not_eq_true' → Iw, false → IK, true → IR, and_eq_true_iff → IS, not_true → Kv, not_false → LC, and_false → NS, and_self → N9
open PySem.Value renaming type → m_, ref → xy, none → E_, bool → Ig, str → IB, builtin → IV, isStrOf → LP, isStrOf_shape → NY, int → OR
open Nat renaming le_refl → n_, ne_of_lt → t_, lt_of_lt_of_le → x_, le_trans → Hm, zero_le → Hq, ne_of_beq_eq_false → HH, lt_succ_of_lt → HP, lt_succ_self → Ij, lt_irrefl → Ik, le_of_lt → Jj, zero_add → Jr, eq_of_beq_eq_true → Jx, le_of_lt_succ → JL, ne_of_gt → Kn, beq → Ko, le_of_ble_eq_true → Kz, le_succ → KQ, not_lt_zero → K9, mod_lt → Le, succ_pos → Ly, le_of_eq → Lz, add_sub_cancel_left → M6, lt_trans → Nm, mul_comm → OJ, succ_ne_self → O0, min_le_right → O1, ble → PQ
open Option renaming some → z_, none → A_, map_some → JE, isSome_iff_exists → JV, all_some → L7, map_eq_some_iff → Nl, getD_none → OZ
open PySem.SetTable renaming insertAt → Hl, grown → IY, turns → N7, leap → N8, tooFull → OT, advance → OU, runEnd → Pw, fits → PC, fill → PD
open PySem.F renaming called_set → Hs, plainAttrs_list → Jm, slot_tuple_iterator_next → Jv, slot_list_append → Kx, slot_enumerate_next → Ky, excBase_ValueError → KP, args_tuple_add_2 → K4, entry_tuple_add → Lj, slot_str_split → Ll, slot_tuple_add → Lu, args_tuple_iterator_next_1 → L6, entry_tuple_iterator_next → Md, args_str_split_2 → Mp, entry_type_call → ME, entry_str_split → MF, type_list_append → MP, typeCall_set_1 → MW, slot_str_partition → MX, slot_list_index → MY, slot_list_count → MZ, entry_set_init → M0, args_enumerate_next_1 → M1, entry_enumerate_next → Nj, slot_list_remove → Nw, sub_list_frozenset → NJ, args_list_append_2 → NK, entry_list_append → NZ
open False renaming elim → Ht
open PySem.Builtin.Str renaming occurrences → Hx, strKind → N1
open PySem.Obj renaming mapSeq → HB, putSet → JS, mk → Ka, data_mapFields → Oj
open Option.some renaming inj → HN, injEq → KB
open PySem.PyData renaming canLay0 → HQ, eqv → HZ, canLayAll0 → IZ, eqvAll → JR, depthAll → K7, depth → Ls
open PyProof.Rows renaming callWith_type1 → H_, slot_tuple_getitem → Ia, seqObj → Ii, callWith_builtin1 → Kc, boot_isinstance → Ks, listItems_at → KT, get?_update_seq → K8, envOfC → Ld, SortSt → Lx, listUpdate_at → LR, arrOf → LX, AllBare → Me, pendingOf → M4, SortKind → M5, subscriptTail_builtinR → Nk, lt_bool → NN, lt_str → N2, lt_int → N3, typeIs_bool' → OF, failedOf → OG, Keyed → OH, IntsAre → OI, oneLt'_eq → OY, strOf → Pd, StrsAre → Pm, IsTup → Py
open Array renaming length_toList → Ib, getElem?_eq_some_iff → Ja, mem_toList_iff → JO, getD_eq_getD_getElem? → KI, forIn_toList → Lf, toList → LD, size_map → LF, getElem?_toList → LK, toList_push → MK, size_append → ML, replicate → Nr, getElem?_map → Op, append_assoc → Oq
open Ne renaming symm → IG
open PySem.ClassData renaming mk → IH
open Int renaming emod_lt_of_pos → IJ, emod_nonneg → JG, toNat_natCast → KH
open PySem.Around renaming under_plainId → IN, under_plain → Mv, frames_deeper → NM
open PyProof.Rows.F renaming plain_set_update_loop → IP, entry_set_update_loop → Ke
open PySem.NameKind renaming free → IW, cell → Ji
open PySem.Heap.SameBut renaming update → Jo
open PySem.Builtin.List renaming listExtendWith → Jq, listTooLong → K6, listItems → Lw, listSameRef → MQ
open PySem.Txt renaming partition → Js, startswith → KO, split → Lh, slice_le → Nf, endswith → OC, slice → OS
open PySem.Shared renaming TypeIs → Jt
open PySem.Builtin.SmallTypes renaming nextOf → Jz, ownedTupleHandOut → KY, ownedTupleIsFree → K5
open PySem.Builtin.Slice renaming slicePlaces → JA, sliceAdjust → KU, sliceApplied → Mu
open PySem.Builtin.Tuple renaming tupleExact → JU, tupleItemsOf → Mt
open PySem.Code renaming quiet_builtin → Km
open PySem.Builtin.Frozenset renaming updateFrom → Kr, newClass → Px, sizeOf → PF, slot0 → PL
open PySem.Data renaming dict → Ku, cls → Mq, fields → Pc
open PySem.Calls renaming spliced_nil → Lv, spliced_cons → Mr, Name_function_global → Ms, evalArgs_plain → NL
open List.Pairwise renaming nil → LA
open PySem.SetTable.layClean renaming free → LQ
open ForInStep renaming yield → L_
open True renaming intro → Mg
open Decidable renaming not_not → MJ
open PySem.SetTable.probe renaming go → MV
open PySem.Builtin.ObjectAttr renaming find → M3, dataDescriptor? → Ol, bindTo → Pz
open List.cons renaming injEq → Nq
open PySem.SeqAt.EqAt renaming bool_bool → NG, str_int → Oh, int_str → Oi
open List.Perm renaming swap → NR
open Sum renaming inr → NT, inl → NU
open LawfulBEq renaming eq_of_beq → NX
open PySem.pickOrder renaming go → Os
open PySem.SetTable.below renaming go → OD
open Std.Legacy renaming Range → OO
open PySem.IsL renaming update → OV
open StateT renaming run_pure → Pf
open PySem.Walks renaming list → Pv
open Function renaming comp → PH
open PyProof.Rows.IsTup renaming new → PM
open ForIn renaming forIn → PN
set_option maxHeartbeats 4000000
set_option Elab.async false
namespace G
open PySem PySem.W PyProof.Rows
noncomputable def hT (i:Nat):Stmt:=PySem.Challenge.pw_notejar_k60_room.main.body.getD i (.Pass ⟨0,0,0,0⟩)
noncomputable def hA (s:Stmt):Arguments:=match s with
 | .FunctionDef _ a _ _ _ _ _ _ _ _=>a
 | _=>{ posonlyargs:=[],args:=[],vararg:=none,kwonlyargs:=[],kw_defaults:=[],kwarg:=none,defaults:=[] }
noncomputable def hB (s:Stmt):List Stmt:=match s with
 | .FunctionDef _ _ b _ _ _ _ _ _ _=>b
 | _=>[]
noncomputable def hS (s:Stmt):Scope:=match s with
 | .FunctionDef _ _ _ _ _ _ sc _ _ _=>sc
 | _=>{ kind:=.function,names:=[],isGenerator:=false,isCoroutine:=false }
noncomputable abbrev kS (s:String) (t:Nat):Value:=.str (a_ s) t
noncomputable abbrev kR (a:Nat):Value:=.ref a
noncomputable abbrev kI (i:Int) (t:Nat):Value:=.int i t
noncomputable abbrev kE (P:NH) (s:String) (t:Nat) (v:Value):DictEntry:=⟨PySem.PyData.keyHash P (a_ s),.str (a_ s) t,v⟩
noncomputable def kF (x:String) (i:Nat) (m:String) (t c:Nat):Obj:=Ka (m_ "function") A_ (Data.func (fnOf (a_ x) (a_ x) (hA (hT i)) (hB (hT i)) (hS (hT i)) .none E_ E_ (kS m t) A_ (kR c) E_)) #[]
noncomputable def kC (x:String) (a b c:Nat) (d e f:Int) (g:Nat) (h:Int) (i j:Nat) (k l:Int) (m:Nat):Obj:=Ka (m_ "code") A_ (Pc #[kS x a,kS x b,kS "/claim/cut.py" c,kI d 0,kI e 0,kI 0 0,kI 0 0,kI f 0,kR g,Ig IR,kI h 0,kR i,E_,E_,E_,kR j,kI k 0,kI l 0,kS "/claim/cut.py" m]) #[]
noncomputable def kD (x:String) (a b c:Nat) (d e f:Int) (g:Nat) (h:Int) (i u v j:Nat) (k l:Int) (m:Nat):Obj:=Ka (m_ "code") A_ (Pc #[kS x a,kS x b,kS "/claim/cut.py" c,kI d 0,kI e 0,kI 0 0,kI 0 0,kI f 0,kR g,Ig IR,kI h 0,kR i,E_,kR u,kR v,kR j,kI k 0,kI l 0,kS "/claim/cut.py" m]) #[]
noncomputable def KKa (P:NH):Frag:=[(2,Ka E_ A_ (Ku #[]) #[]),
 (3,Ka (m_ "dict") A_ (Ku #[kE P "__name__" 165 (kS "law_notejar_k60_room" 623),kE P "__doc__" 166 E_,kE P "__package__" 167 E_,kE P "__loader__" 168 (IV "__main__.__loader__#opaque"),kE P "__spec__" 169 E_,kE P "__annotations__" 170 (kR 6),kE P "__builtins__" 171 (kR 4),kE P "__file__" 173 (kS "/claim/cut.py" 172),kE P "__cached__" 174 E_,kE P "JarError" 206 (kR 24),kE P "NoName" 222 (kR 37),kE P "NoTable" 238 (kR 49),kE P "NoPath" 254 (kR 61),kE P "NoAsk" 270 (kR 73),kE P "NoNote" 286 (kR 85),kE P "NoJar" 302 (kR 97),kE P "NoNumber" 318 (kR 109),kE P "is_text_of" 326 (kR 116),kE P "is_whole_number" 335 (kR 123),kE P "is_tuple_of" 343 (kR 130),kE P "FIGURES" 347 (kS "0123456789" 346),kE P "LABEL_SIGNS" 349 (kS "abcdefghijklmnopqrstuvwxyz0123456789-" 348),kE P "LONGEST_LABEL" 351 (kI 8 350),kE P "MOST_LABELS" 353 (kI 5 352),kE P "MOST_RULES" 355 (kI 8 354),kE P "is_label" 362 (kR 137),kE P "is_name" 368 (kR 142),kE P "is_rule" 375 (kR 149),kE P "is_table" 381 (kR 154),kE P "need_table" 388 (kR 161),kE P "ends_longest_first" 394 (kR 166),kE P "behind_first_dot" 401 (kR 173),kE P "is_told_open" 409 (kR 180),kE P "find_open_end" 419 (kR 187),kE P "find_own_end" 430 (kR 194),kE P "PATH_SIGNS" 434 (kS "abcdefghijklmnopqrstuvwxyz0123456789-_./" 433),kE P "LONGEST_PATH" 436 (kI 20 435),kE P "is_path" 443 (kR 201),kE P "LAST_MOMENT" 447 (kI 9999 446),kE P "is_moment" 454 (kR 208),kE P "is_moment_or_none" 461 (kR 215),kE P "NOTE_NAME_SIGNS" 465 (kS "abcdefghijklmnopqrstuvwxyzABCDEFGHIJKLMNOPQRSTUVWXYZ0123456789-_" 464),kE P "LONGEST_NOTE_NAME" 467 (kI 10 466),kE P "NO_WORTH_SIGNS" 469 (kS ";,=" 468),kE P "LONGEST_WORTH" 471 (kI 12 470),kE P "is_note_name" 478 (kR 222),kE P "is_worth" 484 (kR 227),kE P "is_reach" 491 (kR 234),kE P "NOTE_NAME" 495 (kI 0 494),kE P "NOTE_WORTH" 497 (kI 1 496),kE P "NOTE_HOUSE" 499 (kI 2 498),kE P "NOTE_EXACT" 501 (kI 3 500),kE P "NOTE_PATH" 503 (kI 4 502),kE P "NOTE_ENDS" 505 (kI 5 504),kE P "NOTE_SAFE" 507 (kI 6 506),kE P "NOTE_REACH" 509 (kI 7 508),kE P "NOTE_MADE" 511 (kI 8 510),kE P "NOTE_USED" 513 (kI 9 512),kE P "NOTE_PARTS" 515 (kI 10 514),kE P "is_note" 522 (kR 241),kE P "key" 529 (kR 248),kE P "MOST_NOTES" 533 (kI 20 532),kE P "is_jar" 539 (kR 253),kE P "is_by_made" 545 (kR 258),kE P "has_no_key_twice" 551 (kR 263),kE P "need_jar" 558 (kR 270),kE P "LARGEST_ROOM" 562 (kI 20 561),kE P "need_room" 569 (kR 277),kE P "group_of" 578 (kR 284),kE P "groups" 584 (kR 289),kE P "fitted" 594 (kR 296),kE P "fit" 600 (kR 301),kE P "too_many" 609 (kR 308),kE P "rank" 616 (kR 315),kE P "without" 622 (kR 320),kE P "_law_cell" 632 (kR 327),kE P "_law_drawn" 642 (kR 334),kE P "_law_name" 651 (kR 341),kE P "_law_table" 657 (kR 346),kE P "_law_path" 666 (kR 353),kE P "_law_ask" 675 (kR 360),kE P "_law_ends" 681 (kR 365),kE P "_law_open" 687 (kR 370),kE P "_law_own" 693 (kR 375),kE P "_law_within" 701 (kR 382),kE P "_law_under" 709 (kR 389),kE P "_law_near" 717 (kR 396),kE P "_law_jar" 723 (kR 401),kE P "_law_group" 732 (kR 408),kE P "_law_dropped" 745 (kR 415),kE P "_law_fitted" 751 (kR 420),kE P "_law_refused" 759 (kR 427),kE P "_law_told" 771 (kR 434),kE P "law" 777 (kR 439)] 94) #[]),
 (23,Ka (m_ "dict") A_ (Ku #[kE P "__module__" 196 (kS "notejar.errors" 187),kE P "__firstlineno__" 200 (kI 2 199),kE P "__static_attributes__" 201 (kR 22),kE P "__weakref__" 203 (kR 25),kE P "__doc__" 204 E_] 3) #[]),
 (24,Ka (m_ "type") A_ (Mq (IH (a_ "JarError") [m_ "ValueError"] [kR 24,m_ "ValueError",m_ "Exception",m_ "BaseException",m_ "object"] 23 (a_ "JarError") IR [] [kR 37,kR 49,kR 61,kR 73,kR 85,kR 97,kR 109] IK A_ IK)) #[z_ (kR 15),A_,z_ (kS "JarError" 189),z_ (kS "JarError" 197),z_ (IV "ValueError.__new__"),z_ (Ig IR)]),
 (36,Ka (m_ "dict") A_ (Ku #[kE P "__module__" 214 (kS "notejar.errors" 187),kE P "__firstlineno__" 218 (kI 4 217),kE P "__static_attributes__" 219 (kR 35),kE P "__doc__" 220 E_] 2) #[]),
 (37,Ka (m_ "type") A_ (Mq (IH (a_ "NoName") [kR 24] [kR 37,kR 24,m_ "ValueError",m_ "Exception",m_ "BaseException",m_ "object"] 36 (a_ "NoName") IR [] [] IK A_ IK)) #[z_ (kR 28),A_,z_ (kS "NoName" 207),z_ (kS "NoName" 215),z_ (IV "ValueError.__new__"),z_ (Ig IR)]),
 (48,Ka (m_ "dict") A_ (Ku #[kE P "__module__" 230 (kS "notejar.errors" 187),kE P "__firstlineno__" 234 (kI 6 233),kE P "__static_attributes__" 235 (kR 47),kE P "__doc__" 236 E_] 2) #[]),
 (49,Ka (m_ "type") A_ (Mq (IH (a_ "NoTable") [kR 24] [kR 49,kR 24,m_ "ValueError",m_ "Exception",m_ "BaseException",m_ "object"] 48 (a_ "NoTable") IR [] [] IK A_ IK)) #[z_ (kR 40),A_,z_ (kS "NoTable" 223),z_ (kS "NoTable" 231),z_ (IV "ValueError.__new__"),z_ (Ig IR)]),
 (60,Ka (m_ "dict") A_ (Ku #[kE P "__module__" 246 (kS "notejar.errors" 187),kE P "__firstlineno__" 250 (kI 8 249),kE P "__static_attributes__" 251 (kR 59),kE P "__doc__" 252 E_] 2) #[]),
 (61,Ka (m_ "type") A_ (Mq (IH (a_ "NoPath") [kR 24] [kR 61,kR 24,m_ "ValueError",m_ "Exception",m_ "BaseException",m_ "object"] 60 (a_ "NoPath") IR [] [] IK A_ IK)) #[z_ (kR 52),A_,z_ (kS "NoPath" 239),z_ (kS "NoPath" 247),z_ (IV "ValueError.__new__"),z_ (Ig IR)]),
 (72,Ka (m_ "dict") A_ (Ku #[kE P "__module__" 262 (kS "notejar.errors" 187),kE P "__firstlineno__" 266 (kI 10 265),kE P "__static_attributes__" 267 (kR 71),kE P "__doc__" 268 E_] 2) #[]),
 (73,Ka (m_ "type") A_ (Mq (IH (a_ "NoAsk") [kR 24] [kR 73,kR 24,m_ "ValueError",m_ "Exception",m_ "BaseException",m_ "object"] 72 (a_ "NoAsk") IR [] [] IK A_ IK)) #[z_ (kR 64),A_,z_ (kS "NoAsk" 255),z_ (kS "NoAsk" 263),z_ (IV "ValueError.__new__"),z_ (Ig IR)]),
 (84,Ka (m_ "dict") A_ (Ku #[kE P "__module__" 278 (kS "notejar.errors" 187),kE P "__firstlineno__" 282 (kI 12 281),kE P "__static_attributes__" 283 (kR 83),kE P "__doc__" 284 E_] 2) #[]),
 (85,Ka (m_ "type") A_ (Mq (IH (a_ "NoNote") [kR 24] [kR 85,kR 24,m_ "ValueError",m_ "Exception",m_ "BaseException",m_ "object"] 84 (a_ "NoNote") IR [] [] IK A_ IK)) #[z_ (kR 76),A_,z_ (kS "NoNote" 271),z_ (kS "NoNote" 279),z_ (IV "ValueError.__new__"),z_ (Ig IR)]),
 (96,Ka (m_ "dict") A_ (Ku #[kE P "__module__" 294 (kS "notejar.errors" 187),kE P "__firstlineno__" 298 (kI 14 297),kE P "__static_attributes__" 299 (kR 95),kE P "__doc__" 300 E_] 2) #[]),
 (97,Ka (m_ "type") A_ (Mq (IH (a_ "NoJar") [kR 24] [kR 97,kR 24,m_ "ValueError",m_ "Exception",m_ "BaseException",m_ "object"] 96 (a_ "NoJar") IR [] [] IK A_ IK)) #[z_ (kR 88),A_,z_ (kS "NoJar" 287),z_ (kS "NoJar" 295),z_ (IV "ValueError.__new__"),z_ (Ig IR)]),
 (108,Ka (m_ "dict") A_ (Ku #[kE P "__module__" 310 (kS "notejar.errors" 187),kE P "__firstlineno__" 314 (kI 16 313),kE P "__static_attributes__" 315 (kR 107),kE P "__doc__" 316 E_] 2) #[]),
 (109,Ka (m_ "type") A_ (Mq (IH (a_ "NoNumber") [kR 24] [kR 109,kR 24,m_ "ValueError",m_ "Exception",m_ "BaseException",m_ "object"] 108 (a_ "NoNumber") IR [] [] IK A_ IK)) #[z_ (kR 100),A_,z_ (kS "NoNumber" 303),z_ (kS "NoNumber" 311),z_ (IV "ValueError.__new__"),z_ (Ig IR)]),
 (115,kC "is_text_of" 321 322 323 19 4 3 112 181 113 114 324 19 325),
 (116,kF "is_text_of" 10 "notejar.kinds" 319 115),
 (122,kD "is_whole_number" 327 328 329 25 3 3 117 181 118 119 120 121 333 25 334),
 (123,kF "is_whole_number" 11 "notejar.kinds" 319 122),
 (129,kD "is_tuple_of" 336 337 338 29 2 3 124 181 125 126 127 128 341 29 342),
 (130,kF "is_tuple_of" 12 "notejar.kinds" 319 129),
 (136,kD "is_label" 356 357 358 37 1 3 131 181 132 133 134 135 360 37 361),
 (137,kF "is_label" 19 "notejar.names" 344 136),
 (141,kC "is_name" 363 364 365 41 1 3 138 181 139 140 366 41 367),
 (142,kF "is_name" 20 "notejar.names" 344 141),
 (148,kD "is_rule" 369 370 371 48 1 3 143 181 144 145 146 147 373 48 374),
 (149,kF "is_rule" 21 "notejar.names" 344 148),
 (153,kC "is_table" 376 377 378 56 1 3 150 181 151 152 379 56 380),
 (154,kF "is_table" 22 "notejar.names" 344 153),
 (160,kD "need_table" 382 383 384 62 1 3 155 181 156 157 158 159 386 62 387),
 (161,kF "need_table" 23 "notejar.names" 344 160),
 (165,kC "ends_longest_first" 389 390 391 65 1 3 162 181 163 164 392 65 393),
 (166,kF "ends_longest_first" 24 "notejar.names" 344 165),
 (172,kD "behind_first_dot" 395 396 397 68 1 3 167 181 168 169 170 171 399 68 400),
 (173,kF "behind_first_dot" 25 "notejar.names" 344 172),
 (179,kD "is_told_open" 402 403 404 70 2 3 174 181 175 176 177 178 407 70 408),
 (180,kF "is_told_open" 26 "notejar.names" 344 179),
 (186,kD "find_open_end" 410 411 412 74 2 3 181 181 182 183 184 185 417 74 418),
 (187,kF "find_open_end" 27 "notejar.names" 344 186),
 (193,kD "find_own_end" 420 421 422 83 2 3 188 181 189 190 191 192 428 83 429),
 (194,kF "find_own_end" 28 "notejar.names" 344 193),
 (200,kD "is_path" 437 438 439 93 1 3 195 181 196 197 198 199 441 93 442),
 (201,kF "is_path" 32 "notejar.paths" 431 200),
 (207,kD "is_moment" 448 449 450 97 1 3 202 181 203 204 205 206 452 97 453),
 (208,kF "is_moment" 35 "notejar.asks" 444 207),
 (214,kD "is_moment_or_none" 455 456 457 99 1 3 209 181 210 211 212 213 459 99 460),
 (215,kF "is_moment_or_none" 36 "notejar.asks" 444 214),
 (221,kD "is_note_name" 472 473 474 106 1 3 216 181 217 218 219 220 476 106 477),
 (222,kF "is_note_name" 42 "notejar.giving" 462 221),
 (226,kC "is_worth" 479 480 481 108 1 3 223 181 224 225 482 108 483),
 (227,kF "is_worth" 43 "notejar.giving" 462 226),
 (233,kD "is_reach" 485 486 487 112 1 3 228 181 229 230 231 232 489 112 490),
 (234,kF "is_reach" 44 "notejar.giving" 462 233),
 (240,kD "is_note" 516 517 518 126 1 3 235 181 236 237 238 239 520 126 521)]
noncomputable def KKb (P:NH):Frag:=[(241,kF "is_note" 57 "notejar.notes" 492 240),
 (247,kD "key" 523 524 525 132 1 3 242 181 243 244 245 246 527 132 528),
 (248,kF "key" 58 "notejar.notes" 492 247),
 (252,kC "is_jar" 534 535 536 136 1 3 249 181 250 251 537 136 538),
 (253,kF "is_jar" 61 "notejar.jars" 530 252),
 (257,kC "is_by_made" 540 541 542 142 1 3 254 181 255 256 543 142 544),
 (258,kF "is_by_made" 62 "notejar.jars" 530 257),
 (262,kC "has_no_key_twice" 546 547 548 144 1 3 259 181 260 261 549 144 550),
 (263,kF "has_no_key_twice" 63 "notejar.jars" 530 262),
 (269,kD "need_jar" 552 553 554 147 1 3 264 181 265 266 267 268 556 147 557),
 (270,kF "need_jar" 64 "notejar.jars" 530 269),
 (276,kD "need_room" 563 564 565 152 1 3 271 181 272 273 274 275 567 152 568),
 (277,kF "need_room" 67 "notejar.room" 559 276),
 (283,kD "group_of" 570 571 572 155 2 3 278 181 279 280 281 282 576 155 577),
 (284,kF "group_of" 68 "notejar.room" 559 283),
 (288,kC "groups" 579 580 581 160 2 3 285 181 286 287 582 160 583),
 (289,kF "groups" 69 "notejar.room" 559 288),
 (295,kD "fitted" 585 586 587 165 4 3 290 181 291 292 293 294 592 165 593),
 (296,kF "fitted" 70 "notejar.room" 559 295),
 (300,kC "fit" 595 596 597 171 4 3 297 181 298 299 598 171 599),
 (301,kF "fit" 71 "notejar.room" 559 300),
 (307,kD "too_many" 601 602 603 177 2 3 302 181 303 304 305 306 607 177 608),
 (308,kF "too_many" 72 "notejar.room" 559 307),
 (314,kD "rank" 610 611 612 180 1 3 309 181 310 311 312 313 614 180 615),
 (315,kF "rank" 73 "notejar.room" 559 314),
 (319,kC "without" 617 618 619 182 2 3 316 181 317 318 620 182 621),
 (320,kF "without" 74 "notejar.room" 559 319),
 (326,kD "_law_cell" 625 626 627 185 2 3 321 181 322 323 324 325 630 185 631),
 (327,kF "_law_cell" 76 "law_notejar_k60_room" 623 326),
 (333,kD "_law_drawn" 633 634 635 189 3 3 328 181 329 330 331 332 640 189 641),
 (334,kF "_law_drawn" 77 "law_notejar_k60_room" 623 333),
 (340,kD "_law_name" 643 644 645 193 2 3 335 181 336 337 338 339 649 193 650),
 (341,kF "_law_name" 78 "law_notejar_k60_room" 623 340),
 (345,kC "_law_table" 652 653 654 197 2 3 342 181 343 344 655 197 656),
 (346,kF "_law_table" 79 "law_notejar_k60_room" 623 345),
 (352,kD "_law_path" 658 659 660 200 2 3 347 181 348 349 350 351 664 200 665),
 (353,kF "_law_path" 80 "law_notejar_k60_room" 623 352),
 (364,kC "_law_ends" 676 677 678 206 1 3 361 181 362 363 679 206 680),
 (365,kF "_law_ends" 82 "law_notejar_k60_room" 623 364),
 (369,kC "_law_open" 682 683 684 209 2 3 366 181 367 368 685 209 686),
 (370,kF "_law_open" 83 "law_notejar_k60_room" 623 369),
 (374,kC "_law_own" 688 689 690 216 2 3 371 181 372 373 691 216 692),
 (375,kF "_law_own" 84 "law_notejar_k60_room" 623 374),
 (400,kC "_law_jar" 718 719 720 228 3 3 397 181 398 399 721 228 722),
 (401,kF "_law_jar" 88 "law_notejar_k60_room" 623 400),
 (407,kD "_law_group" 724 725 726 246 2 3 402 181 403 404 405 406 730 246 731),
 (408,kF "_law_group" 89 "law_notejar_k60_room" 623 407),
 (414,kD "_law_dropped" 733 734 735 249 3 3 409 181 410 411 412 413 743 249 744),
 (415,kF "_law_dropped" 90 "law_notejar_k60_room" 623 414),
 (419,kC "_law_fitted" 746 747 748 260 4 3 416 181 417 418 749 260 750),
 (420,kF "_law_fitted" 91 "law_notejar_k60_room" 623 419),
 (426,kD "_law_refused" 752 753 754 268 1 3 421 181 422 423 424 425 757 268 758),
 (427,kF "_law_refused" 92 "law_notejar_k60_room" 623 426),
 (433,kD "_law_told" 760 761 762 275 5 3 428 181 429 430 431 432 769 275 770),
 (434,kF "_law_told" 93 "law_notejar_k60_room" 623 433),
 (438,kC "law" 772 773 774 280 1 3 435 181 436 437 775 280 776),
 (439,kF "law" 94 "law_notejar_k60_room" 623 438)]
noncomputable def KK (P:NH):Frag:=KKa P ++ KKb P
noncomputable def KAa:List Addr:=[2,3,23,24,36,37,48,49,60,61,72,73,84,85,96,97,108,109,115,116,122,123,129,130,136,137,141,142,148,149,153,154,160,161,165,166,172,173,179,180,186,187,193,194,200,201,207,208,214,215,221,222,226,227,233,234,240]
noncomputable def KAb:List Addr:=[241,247,248,252,253,257,258,262,263,269,270,276,277,283,284,288,289,295,296,300,301,307,308,314,315,319,320,326,327,333,334,340,341,345,346,352,353,364,365,369,370,374,375,400,401,407,408,414,415,419,420,426,427,433,434,438,439]
noncomputable def KA:List Addr:=KAa ++ KAb
theorem KA_ok (P:NH):KA=(KK P).map (·.1):=by kernel_rfl
noncomputable def VQ:Program:=view PySem.Challenge.pw_notejar_k60_room [94]
theorem hbr:PySem.Challenge.rw_notejar_k60_room.row.prog.bare:=⟨rfl,rfl,rfl,rfl,rfl,by decide +kernel⟩
set_option maxRecDepth 100000 in
theorem hld (h:PySem.Challenge.rw_notejar_k60_room.row.wellSaid=true→PySem.Challenge.rw_notejar_k60_room.row.Holds):PySem.Challenge.rw_notejar_k60_room.Holds:=by
 w_on; o_law
 exact h (by assumption)
noncomputable def VL:List Str:=[a_ "JarError",a_ "NoName",a_ "NoTable",a_ "NoPath",a_ "NoAsk",a_ "NoNote",a_ "NoJar",a_ "NoNumber",a_ "is_text_of",a_ "is_whole_number",a_ "is_tuple_of",a_ "FIGURES",a_ "LABEL_SIGNS",a_ "LONGEST_LABEL",a_ "MOST_LABELS",a_ "MOST_RULES",a_ "is_label",a_ "is_name",a_ "is_rule",a_ "is_table",a_ "need_table",a_ "ends_longest_first",a_ "behind_first_dot",a_ "is_told_open",a_ "find_open_end",a_ "find_own_end",a_ "PATH_SIGNS",a_ "LONGEST_PATH",a_ "is_path",a_ "LAST_MOMENT",a_ "is_moment",a_ "is_moment_or_none",a_ "NOTE_NAME_SIGNS",a_ "LONGEST_NOTE_NAME",a_ "NO_WORTH_SIGNS",a_ "LONGEST_WORTH",a_ "is_note_name",a_ "is_worth",a_ "is_reach",a_ "NOTE_NAME",a_ "NOTE_WORTH",a_ "NOTE_HOUSE",a_ "NOTE_EXACT",a_ "NOTE_PATH",a_ "NOTE_ENDS",a_ "NOTE_SAFE",a_ "NOTE_REACH",a_ "NOTE_MADE",a_ "NOTE_USED",a_ "NOTE_PARTS",a_ "is_note",a_ "key",a_ "MOST_NOTES",a_ "is_jar",a_ "is_by_made",a_ "has_no_key_twice",a_ "need_jar",a_ "LARGEST_ROOM",a_ "need_room",a_ "group_of",a_ "groups",a_ "fitted",a_ "fit",a_ "too_many",a_ "rank",a_ "without",a_ "_law_cell",a_ "_law_drawn",a_ "_law_name",a_ "_law_table",a_ "_law_path",a_ "_law_ask",a_ "_law_ends",a_ "_law_open",a_ "_law_own",a_ "_law_within",a_ "_law_under",a_ "_law_near",a_ "_law_jar",a_ "_law_group",a_ "_law_dropped",a_ "_law_fitted",a_ "_law_refused",a_ "_law_told"]
theorem Gp {α β γ:Type} {o:Option α} {f:α→β} {g:α→γ} {a:β} {b:γ} (h1:o.map f=some a) (h2:o.map g=some b):o.map (fun s=>(f s,g s))=some (a,b):=by
 cases o with
 | none=>cases h1
 | some x=>cases h1; cases h2; rfl
set_option maxRecDepth 100000 in
theorem DA (w:D_):(Oy NV PySem.Challenge.pw_notejar_k60_room w 7108).map (openSeen VQ VL (importedModules PySem.Challenge.pw_notejar_k60_room.main.body) (fun s=>recOk [] s) true)=some (openGood VQ VL):=by kernel_rfl
set_option maxRecDepth 100000 in
theorem zr (w:D_):(Oy NV PySem.Challenge.pw_notejar_k60_room w 7108).map (fun s=>KAa.map s.heap.get?)=some ((KKa w.params).map fun p=>some p.2):=by kernel_rfl
set_option maxRecDepth 100000 in
theorem zt (w:D_):(Oy NV PySem.Challenge.pw_notejar_k60_room w 7108).map (fun s=>KAb.map s.heap.get?)=some ((KKb w.params).map fun p=>some p.2):=by kernel_rfl
theorem tI {α β γ:Type} {o:Option α} {f:α→β→γ} {A B:List β} {X Y:List γ} (h1:o.map (fun s=>A.map (f s))=some X) (h2:o.map (fun s=>B.map (f s))=some Y):o.map (fun s=>(A ++ B).map (f s))=some (X ++ Y):=by
 cases o with
 | none=>cases h1
 | some x=>cases h1; cases h2; simp
theorem DB (w:D_):(Oy NV PySem.Challenge.pw_notejar_k60_room w 7108).map (fun s=>KA.map s.heap.get?)=some ((KK w.params).map fun p=>some p.2):=by
 show (Oy NV PySem.Challenge.pw_notejar_k60_room w 7108).map (fun s=>(KAa ++ KAb).map s.heap.get?)=some ((KKa w.params ++ KKb w.params).map fun p=>some p.2)
 rw [K_]
 exact tI (f:=fun s:c_=>s.heap.get?) (zr w) (zt w)
theorem left:LeftO PySem.Challenge.pw_notejar_k60_room VQ VL (fun s=>recOk [] s) (Hook.obs (PJ KK KA KA_ok)) (Hook.val (PJ KK KA KA_ok)) 7108:=fun w=>Gp (DA w) (DB w)
end G
set_option Elab.async false
set_option linter.all false
set_option maxRecDepth 100000
namespace L2
open PySem PySem.Spec PyProof.Rows
abbrev Key:=Sum Int Str
def zu:Key→Value→Bool
 | .inl k,v=>Value.isInt k v
 | .inr x,v=>LP x v
def Gq (w:D_):Key→Int
 | .inl k=>hashInt k
 | .inr x=>hashStr w x
theorem aW:∀ {k:Key} {v:Value},zu k v=true→(∃ i t,k=NU i∧v=OR i t)∨(∃ x t,k=NT x∧v=IB x t)
 | .inl i,v,h=>by
  obtain ⟨t,e⟩:=Value.isInt_shape (k:=i) (v:=v) h
  exact .inl ⟨i,t,rfl,e⟩
 | .inr x,v,h=>by
  obtain ⟨t,e⟩:=NY (x:=x) (v:=v) h
  exact .inr ⟨x,t,rfl,e⟩
theorem zv (a b:Int):decide ((NU a:Key)=NU b)=(a == b):=by
 by_cases e:a=b
 · subst e; simp
 · have h:¬ (NU a:Key)=NU b:=fun q=>e (Sum.inl.inj q)
   rw [decide_eq_false h]
   exact (beq_eq_false_iff_ne.mpr e).symm
theorem zw (a b:Str):decide ((NT a:Key)=NT b)=decide (a=b):=by
 by_cases e:a=b
 · subst e; simp
 · have h:¬ (NT a:Key)=NT b:=fun q=>e (Sum.inr.inj q)
   rw [decide_eq_false h,decide_eq_false e]
theorem zx (a:Int) (b:Str):decide ((NU a:Key)=NT b)=false:=decide_eq_false (fun q=>nomatch q)
theorem zy (a:Str) (b:Int):decide ((NT a:Key)=NU b)=false:=decide_eq_false (fun q=>nomatch q)
def pK (prog:Program) (w:D_):PySem.KeyKind prog w Key where
 is:=zu
 hash:=Gq w
 inj:=fun v a b ha hb=>by
  rcases aW ha with ⟨i,t,rfl,rfl⟩ | ⟨x,t,rfl,rfl⟩
  · rcases aW hb with ⟨j,u,rfl,e⟩ | ⟨y,u,rfl,e⟩
    · injection e with e1 _; rw [e1]
    · exact nomatch e
  · rcases aW hb with ⟨j,u,rfl,e⟩ | ⟨y,u,rfl,e⟩
    · exact nomatch e
    · injection e with e1 _; rw [e1]
 byValue:=fun k v h=>by
  rcases aW h with ⟨i,t,rfl,rfl⟩ | ⟨x,t,rfl,rfl⟩ <;> rfl
 pyHash:=fun hv h=>by
  rcases aW hv with ⟨i,t,rfl,rfl⟩ | ⟨x,t,rfl,rfl⟩
  · exact wpAny_pyHash_int h
  · exact wpAny_pyHash_str h
 eqBool:=fun hu hv h=>by
  rcases aW hu with ⟨i,t,rfl,rfl⟩ | ⟨x,t,rfl,rfl⟩
  · rcases aW hv with ⟨j,u,rfl,rfl⟩ | ⟨y,u,rfl,rfl⟩
    · rw [zv] at h; exact wpAny_eqBool_int h
    · rw [zx] at h; exact Oi i t y u _ _ _ _ h
  · rcases aW hv with ⟨j,u,rfl,rfl⟩ | ⟨y,u,rfl,rfl⟩
    · rw [zy] at h; exact Oh x t j u _ _ _ _ h
    · rw [zw] at h; exact wpAny_eqBool_str h
 «strs»:=fun k x t v h=>by
  rcases aW h with ⟨i,u,rfl,e⟩ | ⟨y,u,rfl,e⟩
  · exact nomatch e
  · injection e with e1 _
    subst e1
    cases v <;> rfl
inductive V where
 | non | bl (b:Bool) | int (i:Int) | str (x:Str) | byt (b:Array UInt8) | flt (b:UInt64) | ref (a:Addr) | ty (n:String)
 deriving DecidableEq
def RelV:V→Value→Prop
 | .non,u=>u=E_
 | .bl b,u=>u=Ig b
 | .int i,u=>∃ t,u=OR i t
 | .str x,u=>∃ t,u=IB x t
 | .byt b,u=>∃ t,u=Value.bytes b t
 | .flt b,u=>∃ t,u=Value.float b t
 | .ref a,u=>u=xy a
 | .ty n,u=>u=m_ n
abbrev Vals:List V→List Value→Prop:=Paired RelV
theorem Vals.length {xs:List V} {us:List Value} (r:Vals xs us):xs.length=us.length:=Paired.length r
theorem Vals.get:∀ {xs:List V} {us:List Value} {i:Nat} {x:V},Vals xs us→xs[i]?=some x→∃ u,us[i]?=some u∧RelV x u
 | _,_,_,_,.nil,e=>by simp at e
 | _,_,0,_,.cons r _,e=>by simp at e; subst e; exact ⟨_,rfl,r⟩
 | _,_,i + 1,x,.cons _ t,e=>by
  obtain ⟨u,h1,h2⟩:=Vals.get (i:=i) (x:=x) t (by simpa using e)
  exact ⟨u,by simpa using h1,h2⟩
theorem Vals.set {x:V} {u:Value} (r:RelV x u):∀ {xs:List V} {us:List Value} (i:Nat),Vals xs us→Vals (xs.set i x) (us.set i u)
 | _,_,_,.nil=>.nil
 | _,_,0,.cons _ t=>.cons r t
 | _,_,i + 1,.cons q t=>.cons q (Vals.set r i t)
theorem Vals.append:∀ {xs ys:List V} {us ws:List Value},Vals xs us→Vals ys ws→Vals (xs ++ ys) (us ++ ws)
 | _,_,_,_,.nil,s=>s
 | _,_,_,_,.cons r t,s=>.cons r (Vals.append t s)
theorem Vals.take:∀ {xs:List V} {us:List Value} (n:Nat),Vals xs us→Vals (xs.take n) (us.take n)
 | _,_,0,_=>.nil
 | _,_,_ + 1,.nil=>.nil
 | _,_,n + 1,.cons r t=>.cons r (Vals.take n t)
theorem Vals.drop:∀ {xs:List V} {us:List Value} (n:Nat),Vals xs us→Vals (xs.drop n) (us.drop n)
 | _,_,0,r=>r
 | _,_,_ + 1,.nil=>.nil
 | _,_,n + 1,.cons _ t=>Vals.drop n t
def DC:Option V→Option Value→Prop
 | some v,some u=>RelV v u
 | none,none=>True
 | _,_=>False
def KV {κ:Type}:List (κ×V)→List (κ×Value)→Prop:=Paired fun (p:κ×V) (q:κ×Value)=>p.1=q.1∧RelV p.2 q.2
def kV:Key→V
 | .inl i=>.int i
 | .inr x=>.str x
inductive HO where
 | lst (xs:List V)
 | tup (xs:List V)
 | dK (kvs:List (Key×V)) | dT (kvs:List (List Key×V))
 | set (S:Int→Bool) (n:Nat)
 | ins (C dx:Addr) (fs:List (Str×V))
 | own (x:Addr)
 | xd (fs:List (Str×V))
 | met (f x:Addr)
 | rng (lo hi:Int)
 | frz (o:Obj) (u:HO)
 | tbl (ps:Array Value)
 | ext (φ:Heap→Prop)
abbrev Hp:=Addr→Option HO
def upd (H:Hp) (a:Addr) (o:HO):Hp:=fun b=>if b=a then some o else H b
theorem ak {H:Hp} {a:Addr} {o:HO}:upd H a o a=some o:=by unfold upd; rw [if_pos rfl]
theorem al {H:Hp} {a b:Addr} {o:HO} (h:b≠a):upd H a o b=H b:=by unfold upd; rw [if_neg h]
theorem wy {H:Hp} {a:Addr} {o u:HO}:upd (upd H a o) a u=upd H a u:=by
 funext b; unfold upd; split <;> rfl
theorem am {H:Hp} {a b:Addr} {o:HO} (h:H a=some o) (h':H b=none):a≠b:=by
 intro e; subst e; rw [h] at h'; cases h'
section
variable (P:Program) (w:D_)
def ObjOk (H:Hp) (h:Heap) (a:Addr):HO→Prop
 | .lst xs=>xs.length≤sizeLine∧∃ (its:List Value) (n:Nat),Vals xs its∧h.get? a=some { cls:=.type "list",data:=.seq its.toArray n }
 | .tup xs=>xs.length≤sizeLine∧∃ its:List Value,Vals xs its∧Py h a its.toArray
 | .dK kvs=>kvs.length≤sizeLine∧(a == sysModules)=false∧∃ vs,KV kvs vs∧h.DictOf (pK P w) a vs
 | .dT kvs=>kvs.length≤sizeLine∧(a == sysModules)=false∧∃ xs:List (List Key×Addr×Value),
  Paired (fun (p:List Key×V) (q:List Key×Addr×Value)=>p.1=q.1∧H q.2.1=some (.tup (p.1.map kV))∧RelV p.2 q.2.2) kvs xs ∧
  ∃ o es ep,h.get? a=some o∧o.ExactDict∧o.data=.dict es ep∧es.toList=xs.map (entryOfKey (tupleKind (pK P w)))∧(xs.map (·.1)).Nodup
 | .set S n=>h.SetOf (intKind P w) a S n
 | .ins C dx fs=>H dx=some (.own a)∧fs.length≤1000∧dx≠a∧h.get? a=some (JD C dx) ∧
  ∃ mA,h.Ns1 dx mA∧(∀ f,DC (fs.lookup f) (mA f))∧PySem.Within mA (fs.map (·.1))
 | .own _=>∃ o,h.get? a=some o
 | .xd fs=>∃ mA,h.Ns1 a mA∧∀ f,DC (fs.lookup f) (mA f)
 | .rng lo hi=>∃ t u v,h.get? a=some { cls:=.type "range",data:=.fields #[.int lo t,.int hi u,.int 1 v] }
 | .frz o u=>h.get? a=some o∧ObjOk H h a u
 | .tbl ps=>h.get? a=some { cls:=.none,data:=.fields ps }
 | .met f x=>h.get? a=some (MC (.ref f) (.ref x))
 | .ext φ=>φ h∧(∃ o,h.get? a=some o)∧∀ h1 h2:Heap,φ h1→(∀ o,h1.get? a=some o→h2.get? a=some o)→φ h2
def HOk (H:Hp) (h:Heap):Prop:=∀ a o,H a=some o→ObjOk P w H h a o
end
section
variable {P:Program} {w:D_} {H H':Hp} {h h':Heap} {a:Addr} {o:HO}
theorem ObjOk.lt (x:ObjOk P w H h a o):a < h.objs.size:=by
 cases o with
 | lst xs=>obtain ⟨_,_,_,_,e⟩:=x; exact o_ e
 | tup xs=>obtain ⟨_,_,_,p⟩:=x; exact p.lt
 | dK kvs=>obtain ⟨_,_,_,_,o,_,_,e,_⟩:=x; exact o_ e
 | dT kvs=>obtain ⟨_,_,_,_,o,_,_,e,_⟩:=x; exact o_ e
 | set S n=>obtain ⟨o,_,_,_,e,_⟩:=x; exact o_ e
 | ins C dx fs=>obtain ⟨_,_,_,e,_⟩:=x; exact o_ e
 | own y=>obtain ⟨_,e⟩:=x; exact o_ e
 | xd fs=>obtain ⟨_,⟨_,_,_,e,_⟩,_⟩:=x; exact o_ e
 | rng lo hi=>obtain ⟨_,_,_,e⟩:=x; exact o_ e
 | frz ob u=>obtain ⟨e,_⟩:=x; exact o_ e
 | tbl ps=>exact o_ (show h.get? a=some _ from x)
 | met f y=>exact o_ (show h.get? a=some _ from x)
 | ext φ=>obtain ⟨_,⟨_,e⟩,_⟩:=x; exact o_ e
theorem Paired.mapP {α β:Type} {F G:α→β→Prop}:∀ {l₁:List α} {l₂:List β},Paired F l₁ l₂→(∀ a b,F a b→G a b)→Paired G l₁ l₂
 | _,_,.nil,_=>.nil
 | _,_,.cons r t,f=>.cons (f _ _ r) (Paired.mapP t f)
theorem ObjOk.stay (x:ObjOk P w H h a o) (k:∀ b u,(b=a∨H b=some (.own a))→h.get? b=some u→h'.get? b=some u)
 (ho:∀ b,H b=some (.own a)→H' b=some (.own a)) (ht:∀ b xs,H b=some (.tup xs)→H' b=some (.tup xs)):ObjOk P w H' h' a o:=by
 induction o with
 | lst xs=>obtain ⟨z,its,n,r,e⟩:=x; exact ⟨z,its,n,r,k _ _ (.inl rfl) e⟩
 | tup xs=>obtain ⟨z,its,r,ob,e,c⟩:=x; exact ⟨z,its,r,ob,k _ _ (.inl rfl) e,c⟩
 | dK kvs=>obtain ⟨z,y,vs,r,ob,es,ep,e,c⟩:=x; exact ⟨z,y,vs,r,ob,es,ep,k _ _ (.inl rfl) e,c⟩
 | dT kvs =>
  obtain ⟨z,y,xs,r,ob,es,ep,e,c⟩:=x
  exact ⟨z,y,xs,Paired.mapP r fun p q z=>⟨z.1,ht _ _ z.2.1,z.2.2⟩,ob,es,ep,k _ _ (.inl rfl) e,c⟩
 | set S n=>obtain ⟨ob,es,ep,t,e,c⟩:=x; exact ⟨ob,es,ep,t,k _ _ (.inl rfl) e,c⟩
 | ins C dx fs =>
  obtain ⟨d,z,ne,e,mA,⟨od,es,ep,e2,c⟩,r⟩:=x
  exact ⟨ho _ d,z,ne,k _ _ (.inl rfl) e,mA,⟨od,es,ep,k _ _ (.inr d) e2,c⟩,r⟩
 | own y=>obtain ⟨ob,e⟩:=x; exact ⟨ob,k _ _ (.inl rfl) e⟩
 | xd fs=>obtain ⟨mA,⟨od,es,ep,e,c⟩,r⟩:=x; exact ⟨mA,⟨od,es,ep,k _ _ (.inl rfl) e,c⟩,r⟩
 | rng lo hi=>obtain ⟨t,u,v,e⟩:=x; exact ⟨t,u,v,k _ _ (.inl rfl) e⟩
 | frz ob u ih=>obtain ⟨e,q⟩:=x; exact ⟨k _ _ (.inl rfl) e,ih q⟩
 | tbl ps =>
  have e:h.get? a=some { cls:=.none,data:=.fields ps }:=x
  show h'.get? a=some { cls:=.none,data:=.fields ps }
  exact k a _ (.inl rfl) e
 | met f y =>
  have e:h.get? a=some (MC (.ref f) (.ref y)):=x
  show h'.get? a=some (MC (.ref f) (.ref y))
  exact k a _ (.inl rfl) e
 | ext φ=>obtain ⟨p,⟨o,e⟩,st⟩:=x; exact ⟨st _ _ p fun o q=>k _ _ (.inl rfl) q,⟨o,k _ _ (.inl rfl) e⟩,st⟩
theorem HOk.lt (x:HOk P w H h) (e:H a=some o):a < h.objs.size:=(x a o e).lt
theorem HOk.fresh (x:HOk P w H h) (e:h.objs.size≤a):H a=none:=by
 cases q:H a with
 | none=>rfl
 | some u=>exact absurd (x_ (x.lt q) e) (Ik _)
theorem HOk.kept (x:HOk P w H h) (k:∀ b u,h.get? b=some u→h'.get? b=some u):HOk P w H h':=fun a o e =>
 (x a o e).stay (fun b u _ q=>k b u q) (fun _ q=>q) fun _ _ q=>q
theorem HOk.laid (x:HOk P w H h) (k:∀ b u,h.get? b=some u→h'.get? b=some u) (hp:h.objs.size≤a) (new:ObjOk P w (upd H a o) h' a o):HOk P w (upd H a o) h':=fun b u e=>by
 have hn:=x.fresh hp
 by_cases hb:b=a
 · subst hb; rw [ak] at e; cases e; exact new
 · rw [al hb] at e
   exact (x b u e).stay (fun c v _ q=>k c v q) (fun c q=>by rw [al (am q hn)]; exact q) fun c xs q=>by rw [al (am q hn)]; exact q
end
def Rd (H:Hp) (a:Addr) (u:HO):Prop:=H a=some u∨∃ o,H a=some (.frz o u)
theorem Rd.of {H:Hp} {a:Addr} {u:HO} (h:H a=some u):Rd H a u:=.inl h
theorem Rd.ok {P:Program} {w:D_} {H:Hp} {h:Heap} {a:Addr} {u:HO} (r:Rd H a u) (x:HOk P w H h):ObjOk P w H h a u:=by
 rcases r with r | ⟨o,r⟩
 · exact x a u r
 · obtain ⟨_,q⟩:=x a _ r
   exact q
def Mut:Option HO→Prop
 | some (.lst _)=>True
 | some (.dK _)=>True
 | some (.dT _)=>True
 | some (.set _ _)=>True
 | some (.ins _ _ _)=>True
 | some (.ext _)=>True
 | _=>False
section
variable {P:Program} {w:D_} {H:Hp} {h h':Heap} {x e:Addr} {o':HO}
theorem HOk.write (ok:HOk P w H h) (mu:Mut (H x)) (he:e=x∨H e=some (.own x)) (k:∀ b u,b≠e→h.get? b=some u→h'.get? b=some u) (heo:∃ u,h'.get? e=some u)
 (new:ObjOk P w (upd H x o') h' x o'):HOk P w (upd H x o') h':=fun b u q=>by
 have nown:∀ c y,H c=some (.own y)→c≠x:=fun c y r z=>by subst z; rw [r] at mu; exact mu
 have ntup:∀ c xs,H c=some (.tup xs)→c≠x:=fun c xs r z=>by subst z; rw [r] at mu; exact mu
 by_cases hb:b=x
 · subst hb; rw [ak] at q; cases q; exact new
 · rw [al hb] at q
   by_cases hbe:b=e
   · have q':H b=some (.own x):=by
      rcases he with z | z
      · exact absurd (hbe.trans z) hb
      · rw [hbe]; exact z
     rw [q] at q'; cases q'
     obtain ⟨v,hv⟩:=heo
     exact ⟨v,by rw [hbe]; exact hv⟩
   · refine (ok b u q).stay (fun c v hc r=>k c v ?_ r) (fun c r=>by rw [al (nown c b r)]; exact r) fun c xs r=>by rw [al (ntup c xs r)]; exact r
     rcases hc with rfl | hc
     · exact hbe
     · rintro rfl
       rcases he with z | z
       · exact nown c b hc z
       · rw [hc] at z; cases z; exact hb rfl
end
structure Un (fs ex:List Addr) (H H':Hp) (h h':Heap):Prop where
 keep:∀ b o,h.get? b=some o→H b=none→b ∉ fs→b ∉ ex→h'.get? b=some o
 slot:∀ b o,h.get? b=some o→H b=none→b∈fs→b ∉ ex→∃ sl,h'.get? b=some { o with slots:=sl }
 free:∀ b o,h.get? b=some o→H b=none→b ∉ ex→H' b=none
 there:∀ b o,h.get? b=some o→b ∉ ex→∃ o',h'.get? b=some o'
 tups:∀ b xs,H b=some (.tup xs)→H' b=some (.tup xs)
 frzs:∀ b o u,H b=some (.frz o u)→H' b=some (.frz o u)
 tbls:∀ b ps,H b=some (.tbl ps)→∃ more,H' b=some (.tbl (ps ++ more))
section
variable {fs fs' ex ex':List Addr} {H H1 H2:Hp} {h h1 h2 h':Heap} {a x e:Addr} {o:HO}
theorem Un.any (u:Un fs ex H H1 h h1) {b:Addr} {ob:Obj} (q:h.get? b=some ob) (n:H b=none) (hx:b ∉ ex):∃ sl,h1.get? b=some { ob with slots:=sl }:=by
 by_cases hb:b∈fs
 · exact u.slot b ob q n hb hx
 · exact ⟨ob.slots,u.keep b ob q n hb hx⟩
theorem Un.trans (a:Un fs ex H H1 h h1) (b:Un fs ex H1 H2 h1 h2):Un fs ex H H2 h h2 where
 keep:=fun c ob q n hc hx=>b.keep c ob (a.keep c ob q n hc hx) (a.free c ob q n hx) hc hx
 slot:=fun c ob q n hc hx=>by
  obtain ⟨sl,e1⟩:=a.slot c ob q n hc hx
  obtain ⟨sl',e2⟩:=b.slot c _ e1 (a.free c ob q n hx) hc hx
  exact ⟨sl',e2⟩
 free:=fun c ob q n hx=>by
  obtain ⟨o',e1⟩:=a.there c ob q hx
  exact b.free c o' e1 (a.free c ob q n hx) hx
 there:=fun c ob q hx=>by
  obtain ⟨o',e1⟩:=a.there c ob q hx
  exact b.there c o' e1 hx
 tups:=fun c xs q=>b.tups c xs (a.tups c xs q)
 frzs:=fun c ob xs q=>b.frzs c ob xs (a.frzs c ob xs q)
 tbls:=fun c ps q=>by
  obtain ⟨m1,e1⟩:=a.tbls c ps q
  obtain ⟨m2,e2⟩:=b.tbls c _ e1
  exact ⟨m1 ++ m2,by rw [e2,Oq]⟩
theorem Un.kept (k:∀ b u,h.get? b=some u→h'.get? b=some u):Un fs ex H H h h' :=
 ⟨fun b ob q _ _ _=>k b ob q,fun b ob q _ _ _=>⟨ob.slots,k b ob q⟩,fun _ _ _ n _=>n,fun b ob q _=>⟨ob,k b ob q⟩,fun _ _ q=>q,fun _ _ _ q=>q,fun _ ps q=>⟨#[],by rw [q]; simp⟩⟩
theorem Un.refl:Un fs ex H H h h:=Un.kept fun _ _ q=>q
theorem Un.laid (k:∀ b u,h.get? b=some u→h'.get? b=some u) (hp:h.objs.size≤a) (hn:H a=none):Un fs ex H (upd H a o) h h' where
 keep:=fun b u q _ _ _=>k b u q
 slot:=fun b u q _ _ _=>⟨u.slots,k b u q⟩
 free:=fun b u q n _=>by rw [al (t_ (x_ (o_ q) hp))]; exact n
 there:=fun b u q _=>⟨u,k b u q⟩
 tups:=fun b xs q=>by rw [al (am q hn)]; exact q
 frzs:=fun b u xs q=>by rw [al (am q hn)]; exact q
 tbls:=fun b ps q=>⟨#[],by rw [al (am q hn),q]; simp⟩
theorem Un.write (mu:Mut (H x)) (he:e=x∨H e=some (.own x)) (k:∀ b u,b≠e→h.get? b=some u→h'.get? b=some u) (heo:∃ u,h'.get? e=some u):Un fs ex H (upd H x o) h h':=by
 have hx:∀ b,H b=none→b≠x:=fun b n z=>by subst z; rw [n] at mu; exact mu
 have hb:∀ b,H b=none→b≠e:=fun b n z=>by
  subst z
  rcases he with r | r
  · exact hx b n r
  · rw [n] at r; cases r
 have hm:∀ b u,H b=some u→¬ Mut (some u)→b≠x:=fun b u q nm z=>by subst z; rw [q] at mu; exact nm mu
 refine ⟨fun b u q n _ _=>k b u (hb b n) q,fun b u q n _ _=>⟨u.slots,k b u (hb b n) q⟩,fun b u q n _=>by rw [al (hx b n)]; exact n,fun b u q _=>?_,
  fun b xs q=>by rw [al (hm b _ q fun z=>z)]; exact q,fun b u xs q=>by rw [al (hm b _ q fun z=>z)]; exact q,fun b ps q=>⟨#[],by rw [al (hm b _ q fun z=>z),q]; simp⟩⟩
 by_cases hbe:b=e
 · subst hbe; exact heo
 · exact ⟨u,k b u hbe q⟩
theorem Un.mono (u:Un fs ex H H1 h h1) (hs:∀ b∈fs,b∈fs') (hx:∀ b∈ex,b∈ex'):Un fs' ex' H H1 h h1 :=
 ⟨fun b ob q n hb he=>u.keep b ob q n (fun z=>hb (hs b z)) fun z=>he (hx b z),fun _ _ q n _ he=>u.any q n fun z=>he (hx _ z),fun b ob q n he=>u.free b ob q n fun z=>he (hx b z),fun b ob q he=>u.there b ob q fun z=>he (hx b z),u.tups,u.frzs,u.tbls⟩
end
def trk (h:Heap) (H:Hp):List Addr:=(h_ h.objs.size).filter fun a=>(H a).isSome
def tJ (h:Heap) (H:Hp):Heap:=Pg h (trk h H)
theorem pL (h:Heap) (H:Hp):(tJ h H).objs.size=h.objs.size:=PySem.W.hideAll_size _ _
theorem tK {h:Heap} {H:Hp} {b:Addr} {o:Obj} (e:h.get? b=some o) (n:H b=none):(tJ h H).get? b=some o :=
 Ma _ e fun hm=>by
  have q:(H b).isSome=true:=(HU.mp hm).2
  rw [n] at q; simp at q
theorem wz {h:Heap} {H:Hp} {b:Addr} {o:Obj} (e:(tJ h H).get? b=some o):h.get? b=some o∧H b=none:=by
 have e':h.get? b=some o:=Kj (trk h H) e
 refine ⟨e',?_⟩
 cases q:H b with
 | none=>rfl
 | some x =>
  have hm:b∈trk h H:=HU.mpr ⟨IF.mpr (o_ e'),by simp [q]⟩
  have z:(tJ h H).get? b=none:=IM (trk h H) hm
  rw [z] at e; cases e
def wA (g h:Heap) (L:Addr):List (Addr×Obj):=(h_ h.objs.size).filterMap fun a=>if a=L∨(g.get? a).isSome=true then none else (h.get? a).map fun o=>(a,o)
def rest (g h:Heap) (L d:Addr):List (Addr×Obj):=(wA g h L).filter fun p=>decide (p.1≠d)
structure Mod (K:ck) (mg:Str→Option Value) (base:Heap):Prop where
 kin:K.In base
 glob:base.Ns C_ mg
 blt:∃ mb,base.Ns Oe mb∧∀ x:Str,x≠"__name__"→mb x=Iq x
 nolimit:base.NoLimit
structure Cx where
 prog:Program
 w:D_
 K:ck
 mg:Str→Option Value
 base:Heap
 A:w_
 N:List Str
 s₀:c_
 H₀:Hp
 env:Env
 outer:List Env
 stack:List Env
 ex:List Addr
 fn:Str→Bool
 calm:Bool
 pn:List (Addr×Obj)
 xe:Value→c_→Prop
def frs (l:List Env):List Addr:=l.filterMap (·.frame)
abbrev Cx.fs (X:Cx):List Addr:=frs X.outer
def Vis (sc:Scope) (x:Str):Prop:=sc.names.lookup x=some .local∨sc.names.lookup x=some .cell∨sc.names.lookup x=some .free
def Loc (sc:Scope) (x:Str):Prop:=sc.names.lookup x=some .local∨sc.names.lookup x=some .cell
def Gr (env:Env) (h:Heap) (m:Str→Option Value) (x:Str) (u:Value):Prop :=
 (env.kindOf x=some .local∧m x=some u)∨((env.kindOf x=some .cell∨env.kindOf x=some .free)∧∃ c,env.cells.lookup x=some c∧h.IsCell c (some u))
structure Cx.Ok (X:Cx):Prop where
 mod:Mod X.K X.mg X.base
 kind:X.env.scope.kind=.function
 glob:X.env.globals=C_
 blt:X.env.builtins=Oe
 above:X.s₀.heap.objs.size≤X.env.locals
 inj:∀ x y c,X.env.cells.lookup x=some c→X.env.cells.lookup y=some c→x=y
 has:∀ x,(X.env.kindOf x=some .cell∨X.env.kindOf x=some .free)→∃ c,X.env.cells.lookup x=some c
 cab:∀ x c,X.fn x=true→X.env.cells.lookup x=some c→X.s₀.heap.objs.size≤c
 hd:X.calm=true→X.A.handled=none
 frames:X.A.frames=some X.stack
 stk:X.stack=X.outer∨(X.stack=X.env :: X.outer∧X.env.frame=some X.env.locals)
 exf:∀ b∈X.ex,b≠X.env.locals∧∀ x c,X.env.cells.lookup x=some c→c≠b
 bs:∀ b o,X.base.get? b=some o→X.s₀.heap.get? b=some o∧X.H₀ b=none
 bsz:X.base.objs.size≤X.s₀.heap.objs.size
 noex:∀ b o,X.base.get? b=some o→b ∉ X.ex
 exfs:∀ b∈X.ex,b ∉ X.fs
 funs:X.s₀.heap.FunFrames X.base X.outer
 frf:∀ b∈X.fs,X.H₀ b=none
structure Inv (X:Cx) (pins:List (Addr×Obj)) (σ:List (Option V)) (H:Hp) (s:c_):Prop where
 ok:X.Ok
 os:s.os=X.s₀.os
 bare:Me s.gens
 base:Un X.fs X.ex X.H₀ H X.s₀.heap s.heap
 loc:∃ m,s.heap.Ns X.env.locals m∧∀ (i:Nat) (x:Str) (v:V),X.N[i]?=some x→σ[i]?=some (some v)→Vis X.env.scope x→∃ u,RelV v u∧Gr X.env s.heap m x u
 cell:∀ x c,X.env.cells.lookup x=some c→∃ v,s.heap.IsCell c v
 free:H X.env.locals=none
 freeC:∀ x c,X.env.cells.lookup x=some c→H c=none
 pin:∀ p∈X.pn ++ pins,s.heap.get? p.1=some p.2∧H p.1=none∧p.1≠X.env.locals∧p.1 ∉ X.fs∧∀ v,p.2.data≠.cell v
 hok:HOk X.prog X.w H s.heap
 len:σ.length=X.N.length
section
variable {X:Cx} {pins:List (Addr×Obj)} {σ:List (Option V)} {H H':Hp} {s:c_} {h':Heap}
theorem Cx.Ok.nofr (ok:X.Ok) {b:Addr} {o:Obj} (e:X.base.get? b=some o):b ∉ X.fs:=fun hb=>by
 have:=(ok.funs.mem hb).1
 rw [e] at this; cases this
theorem Inv.bs (I:Inv X pins σ H s):∀ b o,X.base.get? b=some o→s.heap.get? b=some o∧H b=none:=fun b o e =>
 ⟨I.base.keep b o (I.ok.bs b o e).1 (I.ok.bs b o e).2 (I.ok.nofr e) (I.ok.noex b o e),I.base.free b o (I.ok.bs b o e).1 (I.ok.bs b o e).2 (I.ok.noex b o e)⟩
theorem Inv.bk (I:Inv X pins σ H s):∀ b o,X.base.get? b=some o→s.heap.get? b=some o:=fun b o e=>(I.bs b o e).1
theorem Inv.mod (I:Inv X pins σ H s):Mod X.K X.mg X.base:=I.ok.mod
theorem Inv.kIn (I:Inv X pins σ H s):X.K.In s.heap:=I.ok.mod.kin.keeps I.bk
theorem Inv.nolimit (I:Inv X pins σ H s):s.heap.NoLimit:=I.ok.mod.nolimit.keeps I.bk
theorem Inv.fr (I:Inv X pins σ H s):∃ m,Fr X.base X.env.locals s.heap m :=
 let ⟨m,hn,_⟩:=I.loc
 ⟨m,hn,I.bk,Hm I.ok.bsz I.ok.above⟩
theorem Inv.lt (I:Inv X pins σ H s):X.env.locals < s.heap.objs.size:=let ⟨_,hn,_⟩:=I.loc; hn.lt
theorem Inv.sz (I:Inv X pins σ H s):X.s₀.heap.objs.size≤s.heap.objs.size:=Hm I.ok.above (Jj I.lt)
theorem Inv.nofs (I:Inv X pins σ H s) {a:Addr} (h:s.heap.objs.size≤a):a ∉ X.fs:=fun hb=>by
 obtain ⟨_,o,ho,_⟩:=I.ok.funs.mem hb
 exact absurd (x_ (o_ ho) (Hm I.sz h)) (Ik _)
theorem Inv.cne (I:Inv X pins σ H s):∀ x c,X.env.cells.lookup x=some c→c≠X.env.locals:=fun x c e z=>by
 obtain ⟨v,o,ho,hd⟩:=I.cell x c e
 obtain ⟨m,⟨o',es,ep,ho',hd',_⟩,_⟩:=I.loc
 rw [z,ho'] at ho; cases ho; rw [hd'] at hd; cases hd
theorem Inv.funs (I:Inv X pins σ H s):s.heap.FunFrames X.base X.outer:=by
 have all:∀ (l:List Env),(∀ b∈frs l,b∈X.fs)→X.s₀.heap.FunFrames X.base l→s.heap.FunFrames X.base l:=by
  intro l
  induction l with
  | nil=>intro _ _; trivial
  | cons env r ih =>
   intro hs hl
   obtain ⟨hk,⟨L,o,hf,hn,ho,hd⟩,hr⟩:=hl
   have hL:L∈X.fs:=hs L (by unfold frs; rw [K2,hf]; exact g_)
   obtain ⟨sl,e⟩:=I.base.slot L o ho (I.ok.frf L hL) hL fun z=>I.ok.exfs L z hL
   exact ⟨hk,⟨L,_,hf,hn,e,hd⟩,ih (fun b hb=>hs b (by unfold frs; rw [K2,hf]; exact l_ _ hb)) hr⟩
 exact all X.outer (fun _ hb=>hb) I.ok.funs
theorem Inv.stack (I:Inv X pins σ H s):s.heap.FunFrames X.base X.stack:=by
 rcases I.ok.stk with e | ⟨e,hf⟩
 · rw [e]; exact I.funs
 · rw [e]
   obtain ⟨m,hn,_⟩:=I.loc
   refine .cons (by rw [I.ok.kind]; decide) hf hn ?_ I.funs
   exact LW (Hm I.ok.bsz I.ok.above)
theorem Inv.stkSub (I:Inv X pins σ H s):∀ b∈frs X.stack,b∈X.env.locals :: X.fs:=fun b hb=>by
 rcases I.ok.stk with e | ⟨e,hf⟩
 · rw [e] at hb; exact l_ _ hb
 · rw [e] at hb
   unfold frs at hb
   rw [K2,hf] at hb
   exact hb
theorem Inv.stkFree (I:Inv X pins σ H s):∀ b∈frs X.stack,H b=none:=fun b hb=>by
 rcases on.mp (I.stkSub b hb) with e | hb
 · rw [e]; exact I.free
 · obtain ⟨_,o,ho,_⟩:=I.ok.funs.mem hb
   exact I.base.free b o ho (I.ok.frf b hb) fun z=>I.ok.exfs b z hb
theorem Inv.step {g':Array Mn} {t':Nat} {d':Drawn} {ch:List Addr} (I:Inv X pins σ H s)
 (hch:∀ b∈ch,(b∈X.ex∨X.s₀.heap.objs.size≤b)∧b≠X.env.locals∧(∀ x c,X.env.cells.lookup x=some c→c≠b)∧∀ p∈X.pn ++ pins,p.1≠b)
 (keep:∀ b o,b≠X.env.locals→b ∉ X.fs→b ∉ ch→s.heap.get? b=some o→H b=none→h'.get? b=some o)
 (slot:∀ b o,b≠X.env.locals→b∈X.fs→b ∉ ch→s.heap.get? b=some o→H b=none→∃ sl,h'.get? b=some { o with slots:=sl }) (free:∀ b o,b ∉ ch→s.heap.get? b=some o→H b=none→H' b=none)
 (there:∀ b o,b ∉ ch→s.heap.get? b=some o→∃ o',h'.get? b=some o')
 (tups:∀ b xs,H b=some (.tup xs)→H' b=some (.tup xs)) (frzs:∀ b o u,H b=some (.frz o u)→H' b=some (.frz o u)) (tbls:∀ b ps,H b=some (.tbl ps)→∃ more,H' b=some (.tbl (ps ++ more)))
 (ns:∀ m,s.heap.Ns X.env.locals m→h'.Ns X.env.locals m) (hok:HOk X.prog X.w H' h') (hg:Me g') :
 Inv X pins σ H' { s with heap:=h',gens:=g',drawn:=d',toks:=t' }:=by
 have neL:∀ b o,X.s₀.heap.get? b=some o→b≠X.env.locals:=fun b o e=>t_ (x_ (o_ e) I.ok.above)
 have neC:∀ b o,X.s₀.heap.get? b=some o→b ∉ X.ex→b ∉ ch:=fun b o e hx hb=>by
  rcases (hch b hb).1 with z | z
  · exact hx z
  · exact absurd (x_ (o_ e) z) (Ik _)
 have cellK:∀ x c,X.env.cells.lookup x=some c→∀ v,s.heap.IsCell c v→h'.IsCell c v:=fun x c e v ⟨o,ho,hd⟩=>by
  have nch:c ∉ ch:=fun z=>(hch c z).2.2.1 x c e rfl
  by_cases hc:c∈X.fs
  · obtain ⟨sl,q⟩:=slot c o (I.cne x c e) hc nch ho (I.freeC x c e)
    exact ⟨_,q,hd⟩
  · exact ⟨o,keep c o (I.cne x c e) hc nch ho (I.freeC x c e),hd⟩
 refine ⟨I.ok,I.os,hg,⟨fun b o e n hb hx=>?_,fun b o e n hb hx=>?_,fun b o e n hx=>?_,fun b o e hx=>?_,fun b xs e=>tups b xs (I.base.tups b xs e),fun b o xs e=>frzs b o xs (I.base.frzs b o xs e),fun b ps e=>?_⟩,?_,fun x c e=>?_,?_,fun x c e=>?_,fun p hp=>?_,hok,I.len⟩
 · exact keep b o (neL b o e) hb (neC b o e hx) (I.base.keep b o e n hb hx) (I.base.free b o e n hx)
 · obtain ⟨sl,e1⟩:=I.base.slot b o e n hb hx
   obtain ⟨sl',e2⟩:=slot b _ (neL b o e) hb (neC b o e hx) e1 (I.base.free b o e n hx)
   exact ⟨sl',e2⟩
 · obtain ⟨o',e1⟩:=I.base.there b o e hx
   exact free b o' (neC b o e hx) e1 (I.base.free b o e n hx)
 · obtain ⟨o',e1⟩:=I.base.there b o e hx
   exact there b o' (neC b o e hx) e1
 · obtain ⟨m1,e1⟩:=I.base.tbls b ps e
   obtain ⟨m2,e2⟩:=tbls b _ e1
   exact ⟨m1 ++ m2,by rw [e2,Oq]⟩
 · obtain ⟨m,hn,hl⟩:=I.loc
   refine ⟨m,ns m hn,fun i x v e1 e2 e3=>?_⟩
   obtain ⟨u,r,l⟩:=hl i x v e1 e2 e3
   refine ⟨u,r,?_⟩
   rcases l with l | ⟨k,c,e,z⟩
   · exact .inl l
   · exact .inr ⟨k,c,e,cellK x c e _ z⟩
 · obtain ⟨v,z⟩:=I.cell x c e
   exact ⟨v,cellK x c e v z⟩
 · obtain ⟨m,⟨o,_,_,ho,_⟩,_⟩:=I.loc
   exact free _ o (fun z=>(hch _ z).2.1 rfl) ho I.free
 · obtain ⟨v,o,ho,hd⟩:=I.cell x c e
   exact free c o (fun z=>(hch c z).2.2.1 x c e rfl) ho (I.freeC x c e)
 · obtain ⟨e,n,ne,nf,d⟩:=I.pin p hp
   have nch:p.1 ∉ ch:=fun z=>(hch p.1 z).2.2.2 p hp rfl
   exact ⟨keep p.1 p.2 ne nf nch e n,free p.1 p.2 nch e n,ne,nf,d⟩
theorem Inv.un {t':Nat} (I:Inv X pins σ H s) (u:Un X.fs [] H H' s.heap h') (hok:HOk X.prog X.w H' h'):Inv X pins σ H' { s with heap:=h',toks:=t' }:=by
 obtain ⟨m,⟨o,es,ep,ho,r⟩,_⟩:=id I.loc
 obtain ⟨sl,hL⟩:=u.any ho I.free (by simp)
 exact I.step (g':=s.gens) (d':=s.drawn) (ch:=[]) (fun _ z=>nomatch z) (fun b o _ hb _ e n=>u.keep b o e n hb (by simp)) (fun b o _ hb _ e n=>u.slot b o e n hb (by simp)) (fun b o _ e n=>u.free b o e n (by simp)) (fun b o _ e=>u.there b o e (by simp)) u.tups u.frzs u.tbls (fun m' hm=>by
  obtain ⟨o',es',ep',ho',r'⟩:=hm
  rw [ho] at ho'; cases ho'
  exact ⟨_,es',ep',hL,r'⟩) hok I.bare
theorem Inv.call {g':Array Mn} {t':Nat} {d':Drawn} {ch:List Addr} (I:Inv X pins σ H s) (u:Un (frs X.stack) ch H H' s.heap h') (hok:HOk X.prog X.w H' h') (hg:Me g')
 (hch:∀ b∈ch,(b∈X.ex∨X.s₀.heap.objs.size≤b)∧b≠X.env.locals∧(∀ x c,X.env.cells.lookup x=some c→c≠b)∧∀ p∈X.pn ++ pins,p.1≠b) :
 Inv X pins σ H' { s with heap:=h',gens:=g',drawn:=d',toks:=t' }:=by
 obtain ⟨m,⟨o,es,ep,ho,r⟩,_⟩:=id I.loc
 obtain ⟨sl,hL⟩:=u.any ho I.free fun z=>(hch _ z).2.1 rfl
 exact I.step (ch:=ch) hch (fun b o hL hb hc e n=>u.keep b o e n (fun z=>(on.mp (I.stkSub b z)).elim hL hb) hc) (fun b o _ _ hc e n=>u.any e n hc) (fun b o hc e n=>u.free b o e n hc) (fun b o hc e=>u.there b o e hc) u.tups u.frzs u.tbls (fun m' hm=>by
  obtain ⟨o',es',ep',ho',r'⟩:=hm
  rw [ho] at ho'; cases ho'
  exact ⟨_,es',ep',hL,r'⟩) hok hg
theorem Inv.turned {t':Nat} {it:Addr} (I:Inv X pins σ H s) (k:∀ b o,b≠it→s.heap.get? b=some o→h'.get? b=some o) (hn:H it=none) (hL:it≠X.env.locals)
 (h1:it∈X.ex∨X.s₀.heap.objs.size≤it) (h2:∀ x c,X.env.cells.lookup x=some c→c≠it) (h3:∀ p∈X.pn ++ pins,p.1≠it):Inv X pins σ H { s with heap:=h',toks:=t' }:=by
 have nit:∀ b u,H b=some u→b≠it:=fun b u e z=>by rw [z,hn] at e; cases e
 refine I.step (g':=s.gens) (d':=s.drawn) (ch:=[it]) (fun b hb=>?_) (fun b o _ _ hc e _=>k b o (fun z=>hc (by simp [z])) e) (fun b o _ _ hc e _=>⟨o.slots,k b o (fun z=>hc (by simp [z])) e⟩) (fun _ _ _ _ n=>n)
  (fun b o hc e=>⟨o,k b o (fun z=>hc (by simp [z])) e⟩) (fun _ _ e=>e) (fun _ _ _ e=>e) (fun b ps e=>⟨#[],by rw [e]; simp⟩) (fun m hm=>?_) (fun b u e=>?_) I.bare
 · have e:b=it:=by simpa using hb
   subst e
   exact ⟨h1,hL,h2,h3⟩
 · obtain ⟨o,es,ep,ho,r⟩:=hm
   exact ⟨o,es,ep,k _ o (IG hL) ho,r⟩
 · refine (I.hok b u e).stay (fun c v hc q=>k c v ?_ q) (fun _ q=>q) fun _ _ q=>q
   rcases hc with z | z
   · rw [z]; exact nit b u e
   · exact nit c _ z
theorem Inv.tok (I:Inv X pins σ H s) (t:Nat):Inv X pins σ H { s with toks:=t }:=I.un (h':=s.heap) (t':=t) Un.refl I.hok
theorem Inv.kept {t':Nat} (I:Inv X pins σ H s) (k:∀ b u,s.heap.get? b=some u→h'.get? b=some u):Inv X pins σ H { s with heap:=h',toks:=t' }:=I.un (Un.kept k) (I.hok.kept k)
theorem Inv.laid {a:Addr} {o:HO} {t':Nat} (I:Inv X pins σ H s) (k:∀ b u,s.heap.get? b=some u→h'.get? b=some u) (hp:s.heap.objs.size≤a) (new:ObjOk X.prog X.w (upd H a o) h' a o) :
 Inv X pins σ (upd H a o) { s with heap:=h',toks:=t' }:=I.un (Un.laid k hp (I.hok.fresh hp)) (I.hok.laid k hp new)
theorem Inv.write {x e:Addr} {o:HO} {t':Nat} (I:Inv X pins σ H s) (mu:Mut (H x)) (he:e=x∨H e=some (.own x)) (k:∀ b u,b≠e→s.heap.get? b=some u→h'.get? b=some u) (heo:∃ u,h'.get? e=some u)
 (new:ObjOk X.prog X.w (upd H x o) h' x o):Inv X pins σ (upd H x o) { s with heap:=h',toks:=t' }:=I.un (Un.write mu he k heo) (I.hok.write mu he k heo new)
theorem Inv.pins_of {pins':List (Addr×Obj)} (I:Inv X pins σ H s) (h:∀ p∈pins',s.heap.get? p.1=some p.2∧H p.1=none∧p.1≠X.env.locals∧p.1 ∉ X.fs∧∀ v,p.2.data≠.cell v):Inv X pins' σ H s :=
 ⟨I.ok,I.os,I.bare,I.base,I.loc,I.cell,I.free,I.freeC,fun p hp=>(HC.mp hp).elim (fun z=>I.pin p (Hv _ z)) (h p),I.hok,I.len⟩
theorem jk {N:List Str} (hN:N.Nodup) {i j:Nat} {x:Str} (a:N[i]?=some x) (b:N[j]?=some x):i=j:=by
 obtain ⟨h1,e1⟩:=v_.mp a
 obtain ⟨h2,e2⟩:=v_.mp b
 exact (O7 hN).mp (e1.trans e2.symm)
theorem pM {M:MD} {A:w_} {E:Value→c_→Prop} {i:Nat} {x:Str} {v:V} {u:Value} {Q:Unit→c_→Prop} (I:Inv X pins σ H s) (hN:X.N.Nodup) (hi:X.N[i]?=some x) (hx:Loc X.env.scope x) (r:RelV v u)
 (h:∀ s',Inv X pins (σ.set i (some v)) H s'→(∃ a,Ir a s.heap s'.heap∧(a=X.env.locals∨X.env.cells.lookup x=some a))→Q () s') (hf:X.fn x=true∨X.env.scope.names.lookup x=some .local:=by first | exact .inl rfl | exact .inr rfl | assumption):k_ M A (storeName X.env x u) Q E s:=by
 obtain ⟨m,hn,hl⟩:=id I.loc
 have hcls:(X.env.scope.kind == .class || (X.env.scope.kind == .module && X.env.locals != X.env.globals))=false:=by rw [I.ok.kind]; rfl
 have hiσ:i < σ.length:=by rw [I.len]; exact (v_.mp hi).1
 have cne:=I.cne
 have tracked:∀ {a:Addr} {h':Heap},(∃ o,s.heap.get? a=some o∧H a=none)→Ir a s.heap h'→HOk X.prog X.w H h':=fun {a h'} ha hs b ob e=>by
  obtain ⟨_,_,hfree⟩:=ha
  refine (I.hok b ob e).stay (fun c w' hc q=>(hs.2 c ?_).trans q) (fun _ q=>q) fun _ _ q=>q
  rintro rfl
  rcases hc with rfl | hc
  · rw [hfree] at e; cases e
  · rw [hfree] at hc; cases hc
 rcases hx with hk | hk
 · refine wpAny_storeName_local hk hn (fun h' hn' hs=>?_) hcls
   obtain ⟨oL,_,_,hoL,_⟩:=id hn
   refine h _ ⟨I.ok,I.os,I.bare,⟨fun b o e n hb hx=>?_,fun b o e n hb hx=>?_,I.base.free,fun b o e hx=>?_,I.base.tups,I.base.frzs,I.base.tbls⟩,⟨_,hn',fun j y v' e1 e2 e3=>?_⟩,fun y c e=>?_,I.free,I.freeC,fun p hp=>?_,tracked ⟨oL,hoL,I.free⟩ hs,by simpa using I.len⟩ ⟨_,hs,.inl rfl⟩
   · exact (hs.2 b (t_ (x_ (o_ e) I.ok.above))).trans (I.base.keep b o e n hb hx)
   · obtain ⟨sl,e1⟩:=I.base.slot b o e n hb hx
     exact ⟨sl,(hs.2 b (t_ (x_ (o_ e) I.ok.above))).trans e1⟩
   · obtain ⟨o',e1⟩:=I.base.there b o e hx
     exact ⟨o',(hs.2 b (t_ (x_ (o_ e) I.ok.above))).trans e1⟩
   · by_cases hj:j=i
     · subst hj
       rw [hi] at e1; cases e1
       rw [B_ hiσ] at e2
       cases e2
       exact ⟨u,r,.inl ⟨hk,by simp⟩⟩
     · rw [s_ (IG hj)] at e2
       obtain ⟨u',r',q⟩:=hl j y v' e1 e2 e3
       refine ⟨u',r',?_⟩
       rcases q with ⟨k,e⟩ | ⟨k,c,e,z⟩
       · refine .inl ⟨k,?_⟩
         have:y≠x:=fun e=>hj (jk hN e1 (e ▸ hi))
         simp [this,e]
       · exact .inr ⟨k,c,e,z.sameBut hs (cne y c e)⟩
   · obtain ⟨w',z⟩:=I.cell y c e
     exact ⟨w',z.sameBut hs (cne y c e)⟩
   · obtain ⟨e,n,ne,nf,d⟩:=I.pin p hp
     exact ⟨(hs.2 p.1 ne).trans e,n,ne,nf,d⟩
 · have hfn:X.fn x=true:=by
    rcases hf with z | z
    · exact z
    · rw [z] at hk; cases hk
   obtain ⟨c,hc⟩:=I.ok.has x (.inl hk)
   obtain ⟨w',z⟩:=I.cell x c hc
   refine wpAny_storeName_cell I.ok.kind hk hc z (fun h' hc' hs=>?_)
   obtain ⟨oc,hoc,hocd⟩:=id z
   refine h { s with heap:=h' } ⟨I.ok,I.os,I.bare,⟨fun b o e n hb hx=>?_,fun b o e n hb hx=>?_,I.base.free,fun b o e hx=>?_,I.base.tups,I.base.frzs,I.base.tbls⟩,⟨m,hn.sameBut hs (IG (cne x c hc)),fun j y v' e1 e2 e3=>?_⟩,fun y c' e=>?_,I.free,I.freeC,fun p hp=>?_,tracked ⟨oc,hoc,I.freeC x c hc⟩ hs,by simpa using I.len⟩ ⟨c,hs,.inr hc⟩
   · exact (hs.2 b (t_ (x_ (o_ e) (I.ok.cab x c hfn hc)))).trans (I.base.keep b o e n hb hx)
   · obtain ⟨sl,e1⟩:=I.base.slot b o e n hb hx
     exact ⟨sl,(hs.2 b (t_ (x_ (o_ e) (I.ok.cab x c hfn hc)))).trans e1⟩
   · obtain ⟨o',e1⟩:=I.base.there b o e hx
     exact ⟨o',(hs.2 b (t_ (x_ (o_ e) (I.ok.cab x c hfn hc)))).trans e1⟩
   · by_cases hj:j=i
     · subst hj
       rw [hi] at e1; cases e1
       rw [B_ hiσ] at e2
       cases e2
       exact ⟨u,r,.inr ⟨.inl hk,c,hc,hc'⟩⟩
     · rw [s_ (IG hj)] at e2
       obtain ⟨u',r',q⟩:=hl j y v' e1 e2 e3
       refine ⟨u',r',?_⟩
       rcases q with q | ⟨k,c',e,z'⟩
       · exact .inl q
       · refine .inr ⟨k,c',e,z'.sameBut hs ?_⟩
         rintro rfl
         exact hj (jk hN e1 (I.ok.inj _ _ _ e hc ▸ hi))
   · by_cases hcc:c'=c
     · subst hcc; exact ⟨_,hc'⟩
     · obtain ⟨w2,z2⟩:=I.cell y c' e
       exact ⟨w2,z2.sameBut hs hcc⟩
   · obtain ⟨e,n,ne,nf,d⟩:=I.pin p hp
     refine ⟨(hs.2 p.1 ?_).trans e,n,ne,nf,d⟩
     intro q
     rw [q,hoc] at e
     have q':oc=p.2:=HN e
     exact d w' (by rw [← q']; exact hocd)
theorem gu {M:MD} {A:w_} {E:Value→c_→Prop} {i:Nat} {x:Str} {v:V} {u:Value} {Q:Unit→c_→Prop} (I:Inv X pins σ H s) (hN:X.N.Nodup) (hi:X.N[i]?=some x) (hx:Loc X.env.scope x) (r:RelV v u)
 (h:∀ s',Inv X pins (σ.set i (some v)) H s'→Q () s') (hf:X.fn x=true∨X.env.scope.names.lookup x=some .local:=by first | exact .inl rfl | exact .inr rfl | assumption):k_ M A (storeName X.env x u) Q E s :=
 pM I hN hi hx r (fun s' I' _=>h s' I') hf
theorem Inv.call' {s':c_} {ch:List Addr} (I:Inv X pins σ H s) (ho:s'.os=s.os) (u:Un (frs X.stack) ch H H' s.heap s'.heap) (hok:HOk X.prog X.w H' s'.heap) (hg:Me s'.gens)
 (hch:∀ b∈ch,(b∈X.ex∨X.s₀.heap.objs.size≤b)∧b≠X.env.locals∧(∀ x c,X.env.cells.lookup x=some c→c≠b)∧∀ p∈X.pn ++ pins,p.1≠b):Inv X pins σ H' s':=by
 obtain ⟨h',g',d',t',o'⟩:=s'
 have e:o'=s.os:=ho
 subst e
 exact I.call (g':=g') (t':=t') (d':=d') u hok hg hch
end
abbrev XK:=Value→Option Addr→Hp→Prop
abbrev St:=List (Option V)
abbrev VK:=V→Hp→Prop
abbrev TE:=St→Hp→VK→Prop
abbrev TT:=St→Hp→(Bool→Hp→Prop)→Prop
abbrev TA:=St→Hp→(List V→Hp→Prop)→Prop
structure pH where
 nx:St→Hp→Prop
 rt:VK
 bk:St→Hp→Prop:=fun _ _=>False
 ct:St→Hp→Prop:=fun _ _=>False
abbrev TS:=pH→St→Hp→Prop
def EP (X:Cx) (pins:List (Addr×Obj)) (σ:St) (Q:VK) (u:Value) (s':c_):Prop:=∃ v H',Inv X pins σ H' s'∧RelV v u∧Q v H'
def TP (X:Cx) (pins:List (Addr×Obj)) (σ:St) (Q:Bool→Hp→Prop) (b:Bool) (s':c_):Prop:=∃ H',Inv X pins σ H' s'∧Q b H'
def AP (X:Cx) (pins:List (Addr×Obj)) (σ:St) (Q:List V→Hp→Prop) (us:List Value) (s':c_):Prop:=∃ vs H',Inv X pins σ H' s'∧Vals vs us∧Q vs H'
def SP (X:Cx) (pins:List (Addr×Obj)) (D:pH) (f:Flow) (s':c_):Prop :=
 match f with
 | .next=>∃ σ' H',Inv X pins σ' H' s'∧D.nx σ' H'
 | .brk=>∃ σ' H',Inv X pins σ' H' s'∧D.bk σ' H'
 | .cont=>∃ σ' H',Inv X pins σ' H' s'∧D.ct σ' H'
 | .ret u=>∃ v σ' H',Inv X pins σ' H' s'∧RelV v u∧D.rt v H'
def PE (X:Cx) (e:Expr) (t:TE):Prop :=
 ∀ (pins:List (Addr×Obj)) (s:c_) (σ:St) (H:Hp) (Q:VK),Inv X pins σ H s→t σ H Q→k_ (p_ X.prog X.w) X.A (eval e X.env) (EP X pins σ Q) X.xe s
def PT (X:Cx) (e:Expr) (t:TT):Prop :=
 ∀ (pins:List (Addr×Obj)) (s:c_) (σ:St) (H:Hp) (Q:Bool→Hp→Prop),Inv X pins σ H s→t σ H Q→k_ (p_ X.prog X.w) X.A (isTrue e X.env (eval e X.env)) (TP X pins σ Q) X.xe s
def PW (X:Cx) (e:Expr) (t:TT):Prop :=
 ∀ (whole:Sem Value) (pins:List (Addr×Obj)) (s:c_) (σ:St) (H:Hp) (Q:Bool→Hp→Prop),Inv X pins σ H s→t σ H Q→k_ (p_ X.prog X.w) X.A (isTrue e X.env whole) (TP X pins σ Q) X.xe s
theorem PW.pt {X:Cx} {e:Expr} {t:TT} (h:PW X e t):PT X e t:=h _
def PA (X:Cx) (es:List Expr) (t:TA):Prop :=
 ∀ (pos:Pos) (pins:List (Addr×Obj)) (s:c_) (σ:St) (H:Hp) (Q:List V→Hp→Prop),Inv X pins σ H s→t σ H Q→k_ (p_ X.prog X.w) X.A (Pk (Ho pos (f_ es X.env))) (AP X pins σ Q) X.xe s
def PS (X:Cx) (st:Stmt) (t:TS):Prop :=
 ∀ (pins:List (Addr×Obj)) (s:c_) (σ:St) (H:Hp) (D:pH),Inv X pins σ H s→t D σ H→k_ (p_ X.prog X.w) X.A (exec st X.env) (SP X pins D) X.xe s
def PSs (X:Cx) (st:List Stmt) (t:TS):Prop :=
 ∀ (pins:List (Addr×Obj)) (s:c_) (σ:St) (H:Hp) (D:pH),Inv X pins σ H s→t D σ H→k_ (p_ X.prog X.w) X.A (execs st X.env) (SP X pins D) X.xe s
theorem thn {α:Type} {t:Sem α} {Q Q':α→c_→Prop} {M:MD} {A:w_} {E:Value→c_→Prop} {s:c_} (h:k_ M A t Q E s) (hQ:∀ a s,Q a s→Q' a s):k_ M A t Q' E s:=HI h hQ fun _ _ x=>x
section
variable {X:Cx}
def tL (i:Nat):TE:=fun σ H Q=>∃ v,σ[i]?=some (some v)∧Q v H
def tC (v:V):TE:=fun _ H Q=>Q v H
theorem pN {i:Nat} {x:Str} {pos:Pos} (hN:X.N[i]?=some x) (hv:Vis X.env.scope x) (hd:(x == ("__debug__":Str))=false:=by decide) (hcd:(x == ("__classdict__":Str))=false:=by decide):PE X (.Name x pos) (tL i):=by
 intro pins s σ H Q I h
 obtain ⟨v,e,h⟩:=h
 obtain ⟨m,hn,hl⟩:=I.loc
 obtain ⟨u,r,l⟩:=hl i x v hN e hv
 have fin:EP X pins σ Q u s:=⟨v,H,I,r,h⟩
 rcases l with ⟨hk,hm⟩ | ⟨hk,c,hc,hcell⟩
 · exact wpAny_Name (wpAny_loadName_local I.ok.kind hk hn hm fin) hd
 · rcases hk with hk | hk
   · exact wpAny_Name (wpAny_loadName_cell I.ok.kind hk hc hcell fin) hd
   · exact wpAny_Name (wpAny_loadName_free I.ok.kind hk hc hcell fin hcd) hd
theorem zz {i j pos}:PE X (.Constant (.int i) j pos) (tC (.int i)):=fun _ _ _ H _ I h=>wpAny_Constant_int ⟨.int i,H,I.tok _,⟨_,rfl⟩,h⟩
theorem DD {b j pos}:PE X (.Constant (.bool b) j pos) (tC (.bl b)):=fun _ _ _ H _ I h=>Constant_bool ⟨.bl b,H,I,rfl,h⟩
theorem zA {j pos}:PE X (.Constant .none j pos) (tC .non):=fun _ _ _ H _ I h=>Constant_none ⟨.non,H,I,rfl,h⟩
theorem zB {x j pos}:PE X (.Constant (.str x) j pos) (tC (.str x)):=fun _ _ _ H _ I h=>Calls.Constant_str ⟨.str x,H,I.tok _,⟨_,rfl⟩,h⟩
def Gl (X:Cx) (x:Str):Prop:=X.env.kindOf x=some .globalImplicit
theorem fN {E:Value→c_→Prop} {pins:List (Addr×Obj)} {s:c_} {σ:St} {H:Hp} {x:Str} {u:Value} {pos:Pos} {Q:Value→c_→Prop} (I:Inv X pins σ H s) (hg:Gl X x) (hm:X.mg x=some u) (h:Q u s)
 (hd:(x == ("__debug__":Str))=false:=by decide):k_ (p_ X.prog X.w) X.A (eval (.Name x pos) X.env) Q E s :=
 Ms I.ok.kind hg (Calls.loadGlobal_global (by rw [I.ok.glob]; exact I.mod.glob.keeps I.bk) hm h) hd
theorem dh {E:Value→c_→Prop} {pins:List (Addr×Obj)} {s:c_} {σ:St} {H:Hp} {x:Str} {u:Value} {pos:Pos} {Q:Value→c_→Prop} (I:Inv X pins σ H s) (hg:Gl X x) (hm:X.mg x=none) (hv:Iq x=some u) (h:Q u s)
 (hn:x≠"__name__":=by decide) (hd:(x == ("__debug__":Str))=false:=by decide):k_ (p_ X.prog X.w) X.A (eval (.Name x pos) X.env) Q E s:=by
 obtain ⟨mb,h1,h2⟩:=I.mod.blt
 exact Ms I.ok.kind hg (Calls.loadGlobal_builtin (by rw [I.ok.glob]; exact I.mod.glob.keeps I.bk) hm (by rw [I.ok.blt]; exact h1.keeps I.bk) ((h2 x hn).trans hv) h) hd
theorem lC {x:Str} {v:V} {u:Value} {pos:Pos} (hg:Gl X x) (hm:X.mg x=some u) (r:RelV v u) (hd:(x == ("__debug__":Str))=false:=by decide):PE X (.Name x pos) (tC v) :=
 fun _ _ _ H _ I h=>fN I hg hm ⟨v,H,I,r,h⟩ hd
theorem pO {x:Str} {v:V} {u:Value} {pos:Pos} (hg:Gl X x) (hm:X.mg x=none) (hv:Iq x=some u) (r:RelV v u) (hn:x≠"__name__":=by decide) (hd:(x == ("__debug__":Str))=false:=by decide):PE X (.Name x pos) (tC v) :=
 fun _ _ _ H _ I h=>dh I hg hm hv ⟨v,H,I,r,h⟩ hn hd
variable {a b:Expr} {ta tb:TE} {pos:Pos}
def tB (t:TE):TT:=fun σ H Q=>t σ H fun x H1=>∃ c,x=.bl c∧Q c H1
theorem zE {e:Expr} {t:TE} (h:PE X e t) (he:∀ whole,isTrue e X.env whole=(do let v ← whole; standAt e.pos; Pl [v] (truthy v)):=by intro _; rfl):PT X e (tB t):=by
 intro pins s σ H Q I hw
 refine isTrue_plain (thn (h pins s σ H _ I hw) fun v s1 ⟨x,H1,I1,r1,q1⟩=>?_) (he _)
 obtain ⟨d,rfl,q⟩:=q1
 cases r1
 exact Jl ⟨H1,I1,q⟩
variable {tA tB':TT} {rest:List Expr}
def Gs (t u:TT):TT:=fun σ H Q=>t σ H fun c H1=>if c=true then u σ H1 Q else Q false H1
def tOr (t u:TT):TT:=fun σ H Q=>t σ H fun c H1=>if c=true then Q true H1 else u σ H1 Q
def Gu (t:TT):TT:=fun σ H Q=>t σ H fun c H1=>Q (!c) H1
theorem wB (ha:PT X a tA):PW X (.BoolOp .And [a] pos) tA:=by
 intro wh pins s σ H Q I h
 refine isTrue_and (thn (ha pins s σ H Q I h) fun c s1 e=>?_)
 cases c with
 | true=>exact isTrue_and_nil e
 | false=>exact e
theorem zF (ha:PT X a tA):PW X (.BoolOp .Or [a] pos) tA:=by
 intro wh pins s σ H Q I h
 refine isTrue_or (thn (ha pins s σ H Q I h) fun c s1 e=>?_)
 cases c with
 | false=>exact isTrue_or_nil e
 | true=>exact e
theorem zG (ha:PT X a tA) (hb:PW X (.BoolOp .And (b :: rest) pos) tB'):PW X (.BoolOp .And (a :: b :: rest) pos) (Gs tA tB'):=by
 intro wh pins s σ H Q I h
 refine isTrue_and (thn (ha pins s σ H _ I h) fun c s1 ⟨H1,I1,q1⟩=>?_)
 cases c with
 | true=>exact hb wh pins s1 σ H1 Q I1 q1
 | false=>exact ⟨H1,I1,q1⟩
theorem DE (ha:PT X a tA) (hb:PW X (.BoolOp .Or (b :: rest) pos) tB'):PW X (.BoolOp .Or (a :: b :: rest) pos) (tOr tA tB'):=by
 intro wh pins s σ H Q I h
 refine isTrue_or (thn (ha pins s σ H _ I h) fun c s1 ⟨H1,I1,q1⟩=>?_)
 cases c with
 | true=>exact ⟨H1,I1,q1⟩
 | false=>exact hb wh pins s1 σ H1 Q I1 q1
theorem zH (ha:PT X a tA):PT X (.UnaryOp .Not a pos) (Gu tA):=by
 intro pins s σ H Q I h
 exact isTrue_not (ha pins s σ H (fun c H1=>Q (!c) H1) I h)
def DF (ta tb:TE):TE:=fun σ H Q=>ta σ H fun x H1=>∃ c,x=.bl c∧if c=true then tb σ H1 Q else Q (.bl false) H1
def Gv (ta tb:TE):TE:=fun σ H Q=>ta σ H fun x H1=>∃ c,x=.bl c∧if c=true then Q (.bl true) H1 else tb σ H1 Q
def DG (ta:TE):TE:=fun σ H Q=>ta σ H fun x H1=>∃ c,x=.bl c∧Q (.bl (!c)) H1
theorem zI {op} {t:TE} (h:PE X a t):PE X (.BoolOp op [a] pos) t:=fun pins s σ H Q I hw=>BoolOp_one (h pins s σ H Q I hw)
theorem zJ (ha:PE X a ta) (hb:PE X (.BoolOp .And (b :: rest) pos) tb):PE X (.BoolOp .And (a :: b :: rest) pos) (DF ta tb):=by
 intro pins s σ H Q I h
 refine BoolOp_and (thn (ha pins s σ H _ I h) fun v s1 ⟨x,H1,I1,r1,q1⟩=>?_)
 obtain ⟨c,rfl,q1⟩:=q1
 cases r1
 refine Jl ?_
 cases c with
 | true=>exact hb pins s1 σ H1 Q I1 q1
 | false=>exact ⟨.bl false,H1,I1,rfl,q1⟩
theorem DH (ha:PE X a ta) (hb:PE X (.BoolOp .Or (b :: rest) pos) tb):PE X (.BoolOp .Or (a :: b :: rest) pos) (Gv ta tb):=by
 intro pins s σ H Q I h
 refine BoolOp_or (thn (ha pins s σ H _ I h) fun v s1 ⟨x,H1,I1,r1,q1⟩=>?_)
 obtain ⟨c,rfl,q1⟩:=q1
 cases r1
 refine Jl ?_
 cases c with
 | false=>exact hb pins s1 σ H1 Q I1 q1
 | true=>exact ⟨.bl true,H1,I1,rfl,q1⟩
theorem zK (ha:PE X a ta):PE X (.UnaryOp .Not a pos) (DG ta):=by
 intro pins s σ H Q I h
 refine UnaryOp_ (thn (ha pins s σ H _ I h) fun v s1 ⟨x,H1,I1,r1,q1⟩=>?_)
 obtain ⟨c,rfl,q1⟩:=q1
 cases r1
 exact not_of (Jl ⟨.bl (!c),H1,I1,rfl,q1⟩)
def tIf (t:TT) (ta tb:TE):TE:=fun σ H Q=>t σ H fun c H1=>if c=true then ta σ H1 Q else tb σ H1 Q
theorem tM {c:Expr} (hc:PT X c tA) (ha:PE X a ta) (hb:PE X b tb):PE X (.IfExp c a b pos) (tIf tA ta tb):=by
 intro pins s σ H Q I h
 refine wpAny_IfExp (thn (hc pins s σ H _ I h) fun d s1 ⟨H1,I1,q1⟩=>?_)
 cases d with
 | true=>exact ha pins s1 σ H1 Q I1 q1
 | false=>exact hb pins s1 σ H1 Q I1 q1
end
def SqL (K:ck) (H:Hp) (a:Addr) (xs:List V):Prop :=
 Rd H a (.lst xs) ∨
  ∃ (o:Obj) (its:Array Value) (n:Nat),K.lookup a=some o∧o.cls=.type "list"∧o.dict=none∧o.data=.seq its n∧its.size≤sizeLine∧Vals xs its.toList
def SqT (K:ck) (H:Hp) (a:Addr) (xs:List V):Prop :=
 Rd H a (.tup xs) ∨
  ∃ (o:Obj) (its:Array Value) (n:Nat),K.lookup a=some o∧o.cls=.type "tuple"∧o.data=.seq its n∧its.size≤sizeLine∧Vals xs its.toList
def Gw:Value→Option V
 | .none=>some .non
 | .bool b=>some (.bl b)
 | .int i _=>some (.int i)
 | .str x _=>some (.str x)
 | .bytes b _=>some (.byt b)
 | .float b _=>some (.flt b)
 | .ref a=>some (.ref a)
 | .type n=>some (.ty n)
 | _=>none
theorem RelV.abs {x:V} {u:Value} (r:RelV x u):Gw u=some x:=by
 cases x with
 | non=>cases r; rfl
 | bl _=>cases r; rfl
 | int _=>obtain ⟨t,rfl⟩:=r; rfl
 | str _=>obtain ⟨t,rfl⟩:=r; rfl
 | byt _=>obtain ⟨t,rfl⟩:=r; rfl
 | flt _=>obtain ⟨t,rfl⟩:=r; rfl
 | ref _=>cases r; rfl
 | ty _=>cases r; rfl
theorem RelV.inj {x y:V} {u:Value} (r:RelV x u) (q:RelV y u):x=y:=HN (r.abs.symm.trans q.abs)
theorem Vals.inj:∀ {xs ys:List V} {us:List Value},Vals xs us→Vals ys us→xs=ys
 | _,_,_,.nil,.nil=>rfl
 | _,_,_,.cons r t,.cons r' t'=>by rw [r.inj r',Vals.inj t t']
section
variable {X:Cx} {pins:List (Addr×Obj)} {σ:St} {H:Hp} {s:c_} {a:Addr} {xs ys:List V}
theorem SqL.of {K:ck} (h:H a=some (.lst xs)):SqL K H a xs:=.inl (.inl h)
theorem SqT.of {K:ck} (h:H a=some (.tup xs)):SqT K H a xs:=.inl (.inl h)
theorem Inv.list (I:Inv X pins σ H s) (h:SqL X.K H a xs):∃ its:List Value,Vals xs its∧PlainL s.heap a its.toArray∧xs.length≤sizeLine:=by
 rcases h with h | ⟨o,its,n,hk,hc,hd,hs,hz,r⟩
 · obtain ⟨z,its,n,r,e⟩:=h.ok I.hok
   exact ⟨its,r,⟨_,n,e,rfl,rfl,rfl⟩,z⟩
 · refine ⟨its.toList,r,⟨o,n,I.kIn a o hk,hc,hd,by simpa using hs⟩,?_⟩
   have e:=r.length
   simp only [Ib] at e
   omega
theorem Inv.tuple (I:Inv X pins σ H s) (h:SqT X.K H a xs):∃ its:List Value,Vals xs its∧Py s.heap a its.toArray∧xs.length≤sizeLine:=by
 rcases h with h | ⟨o,its,n,hk,hc,hs,hz,r⟩
 · obtain ⟨z,its,r,p⟩:=h.ok I.hok
   exact ⟨its,r,p,z⟩
 · refine ⟨its.toList,r,⟨o,I.kIn a o hk,hc,n,by simpa using hs⟩,?_⟩
   have e:=r.length
   simp only [Ib] at e
   omega
theorem Inv.list_inj (I:Inv X pins σ H s) (h:SqL X.K H a xs) (h':SqL X.K H a ys):xs=ys:=by
 obtain ⟨its,r,⟨o,n,e,_,_,d⟩,_⟩:=I.list h
 obtain ⟨its',r',⟨o',n',e',_,_,d'⟩,_⟩:=I.list h'
 rw [e] at e'; cases e'
 rw [d] at d'
 injection d' with d1 _
 have:its=its':=by simpa using congrArg LD d1
 subst this
 exact r.inj r'
theorem Inv.tuple_inj (I:Inv X pins σ H s) (h:SqT X.K H a xs) (h':SqT X.K H a ys):xs=ys:=by
 obtain ⟨its,r,⟨o,e,_,n,d⟩,_⟩:=I.tuple h
 obtain ⟨its',r',⟨o',e',_,n',d'⟩,_⟩:=I.tuple h'
 rw [e] at e'; cases e'
 rw [d] at d'
 injection d' with d1 _
 have:its=its':=by simpa using congrArg LD d1
 subst this
 exact r.inj r'
end
abbrev Cx.wish (X:Cx) (E:Value→c_→Prop):Cx:={ X with xe:=E }
abbrev Cx.nox (X:Cx):Cx:=X.wish fun _ _=>False
theorem Cx.Ok.wish {X:Cx} (ok:X.Ok) (E:Value→c_→Prop):(X.wish E).Ok :=
 ⟨ok.mod,ok.kind,ok.glob,ok.blt,ok.above,ok.inj,ok.has,ok.cab,ok.hd,ok.frames,ok.stk,ok.exf,ok.bs,ok.bsz,ok.noex,ok.exfs,ok.funs,ok.frf⟩
theorem Cx.Ok.unwish {X:Cx} {E:Value→c_→Prop} (ok:(X.wish E).Ok):X.Ok :=
 ⟨ok.mod,ok.kind,ok.glob,ok.blt,ok.above,ok.inj,ok.has,ok.cab,ok.hd,ok.frames,ok.stk,ok.exf,ok.bs,ok.bsz,ok.noex,ok.exfs,ok.funs,ok.frf⟩
section
variable {X:Cx} {pins:List (Addr×Obj)} {σ:St} {H:Hp} {s:c_} {E:Value→c_→Prop}
theorem Inv.wish (I:Inv X pins σ H s) (E:Value→c_→Prop):Inv (X.wish E) pins σ H s:=⟨I.ok.wish E,I.os,I.bare,I.base,I.loc,I.cell,I.free,I.freeC,I.pin,I.hok,I.len⟩
theorem Inv.unwish (I:Inv (X.wish E) pins σ H s):Inv X pins σ H s:=⟨I.ok.unwish,I.os,I.bare,I.base,I.loc,I.cell,I.free,I.freeC,I.pin,I.hok,I.len⟩
theorem SP.unwish {D:pH} {f:Flow} {s':c_} (h:SP (X.wish E) pins D f s'):SP X pins D f s':=by
 cases f with
 | next=>obtain ⟨σ',H',I,q⟩:=h; exact ⟨σ',H',I.unwish,q⟩
 | brk=>obtain ⟨σ',H',I,q⟩:=h; exact ⟨σ',H',I.unwish,q⟩
 | cont=>obtain ⟨σ',H',I,q⟩:=h; exact ⟨σ',H',I.unwish,q⟩
 | ret u=>obtain ⟨v,σ',H',I,r,q⟩:=h; exact ⟨v,σ',H',I.unwish,r,q⟩
theorem PE.nox {e:Expr} {t:TE} (h:PE X.nox e t):PE X e t:=fun pins s σ H Q I hw =>
 HI (h pins s σ H Q (I.wish _) hw) (fun _ _ ⟨v,H',I',r,q⟩=>⟨v,H',I'.unwish,r,q⟩) fun _ _ z=>Ht z
theorem PT.nox {e:Expr} {t:TT} (h:PT X.nox e t):PT X e t:=fun pins s σ H Q I hw =>
 HI (h pins s σ H Q (I.wish _) hw) (fun _ _ ⟨H',I',q⟩=>⟨H',I'.unwish,q⟩) fun _ _ z=>Ht z
theorem PSs.nox {st:List Stmt} {t:TS} (h:PSs X.nox st t):PSs X st t:=fun pins s σ H D I hw =>
 HI (h pins s σ H D (I.wish _) hw) (fun _ _ q=>q.unwish) fun _ _ z=>Ht z
end
section
variable {X:Cx} {st:Stmt} {rest:List Stmt} {t u:TS} {e:Expr} {te:TE} {pos:Pos}
def DI:TS:=fun D σ H=>D.nx σ H
def Gx (t u:TS):TS:=fun D σ H=>t { D with nx:=u D } σ H
theorem lD:PSs X [] DI:=fun _ _ σ H _ I h=>LY ⟨σ,H,I,h⟩
theorem c6 (h1:PS X st t) (h2:PSs X rest u):PSs X (st :: rest) (Gx t u):=by
 intro pins s σ H D I h
 refine wpAny_execs_cons (thn (h1 pins s σ H { D with nx:=u D } I h) fun f s1 q=>?_)
 cases f with
 | next =>
  obtain ⟨σ',H',I',q⟩:=q
  exact h2 pins s1 σ' H' D I' q
 | ret v=>exact q
 | brk=>exact q
 | cont=>exact q
theorem gJ (h1:PS X st t):PSs X [st] t:=by
 intro pins s σ H D I h
 refine wpAny_execs_cons (thn (h1 pins s σ H D I h) fun f s1 q=>?_)
 cases f with
 | next=>exact LY q
 | ret v=>exact q
 | brk=>exact q
 | cont=>exact q
theorem Inv.quiet {pins:List (Addr×Obj)} {σ:St} {H:Hp} {s:c_} (I:Inv X pins σ H s):interactive X.env=false:=by simp [interactive,I.ok.kind]
def DJ (te:TE):TS:=fun D σ H=>te σ H fun _ H1=>D.nx σ H1
theorem jl (he:PE X e te) (hs:HR e none pos.line X.env=pure false:=by rfl):PS X (.Expr e pos) (DJ te):=by
 intro pins s σ H D I h
 exact wpAny_Expr_any (thn (he pins s σ H _ I h) fun v s1 ⟨x,H1,I1,r1,q1⟩=>⟨σ,H1,I1,q1⟩) I.quiet hs
def Gy (te:TE):TS:=fun D σ H=>te σ H D.rt
theorem vJ (he:PE X e te):PS X (.Return (some e) pos) (Gy te):=by
 intro pins s σ H D I h
 exact wpAny_Return_some (thn (he pins s σ H _ I h) fun v s1 ⟨x,H1,I1,r1,q1⟩=>⟨x,σ,H1,I1,r1,q1⟩)
def Gz (c:TT) (t u:TS):TS:=fun D σ H=>c σ H fun b H1=>if b=true then t D σ H1 else u D σ H1
theorem wC {c:Expr} {a b:List Stmt} {tc:TT} (hc:PT X c tc) (ha:PSs X a t) (hb:PSs X b u):PS X (.If c a b pos) (Gz tc t u):=by
 intro pins s σ H D I h
 refine wpAny_If (thn (hc pins s σ H _ I h) fun d s1 ⟨H1,I1,q1⟩=>?_)
 cases d with
 | true=>exact ha pins s1 σ H1 D I1 q1
 | false=>exact hb pins s1 σ H1 D I1 q1
end
abbrev TG:=V→St→Hp→(St→Hp→Prop)→Prop
abbrev TGs:=List V→St→Hp→(St→Hp→Prop)→Prop
def PG (X:Cx) (target:Expr) (t:TG):Prop :=
 ∀ (pins:List (Addr×Obj)) (s:c_) (σ:St) (H:Hp) (v:V) (u:Value) (Q:St→Hp→Prop),Inv X pins σ H s→RelV v u→t v σ H Q →
  k_ (p_ X.prog X.w) X.A (Ml target X.env u) (fun _ s'=>∃ σ' H',Inv X pins σ' H' s'∧Q σ' H') X.xe s
def PGs (X:Cx) (ts:List Expr) (t:TGs):Prop :=
 ∀ (pins:List (Addr×Obj)) (s:c_) (σ:St) (H:Hp) (vs:List V) (us:List Value) (Q:St→Hp→Prop),Inv X pins σ H s→Vals vs us→t vs σ H Q →
  k_ (p_ X.prog X.w) X.A (assignInOrder ((Ie ts X.env).map (·.2)) us) (fun _ s'=>∃ σ' H',Inv X pins σ' H' s'∧Q σ' H') X.xe s
section
variable {X:Cx} {pos:Pos}
def gK (i:Nat):TG:=fun v σ H Q=>Q (σ.set i (some v)) H
theorem dw {i:Nat} {x:Str} (hN:X.N.Nodup) (hi:X.N[i]?=some x) (hx:Loc X.env.scope x) (hf:X.fn x=true∨X.env.scope.names.lookup x=some .local:=by first | exact .inl rfl | exact .inr rfl | assumption):PG X (.Name x pos) (gK i):=by
 intro pins s σ H v u Q I r h
 exact wpAny_assign_Name (gu I hN hi hx r (fun s' I'=>⟨_,H,I',h⟩) hf)
def GA:TGs:=fun vs σ H Q=>vs=[]∧Q σ H
def DK (t:TG) (u:TGs):TGs:=fun vs σ H Q=>∃ v r,vs=v :: r∧t v σ H fun σ' H'=>u r σ' H' Q
theorem pP:PGs X [] GA:=by
 intro pins s σ H vs us Q I r h
 obtain ⟨e,h⟩:=h
 subst e
 cases r
 exact assignInOrder_nil ⟨σ,H,I,h⟩
theorem jm {e:Expr} {es:List Expr} {t:TG} {u:TGs} (h1:PG X e t) (h2:PGs X es u)
 (hs:(Ie (e :: es) X.env).map (·.2)=Ml e X.env :: (Ie es X.env).map (·.2):=by rfl):PGs X (e :: es) (DK t u):=by
 intro pins s σ H vs us Q I r h
 obtain ⟨v,vr,e1,h⟩:=h
 subst e1
 cases r with
 | cons r rr =>
  rw [hs]
  refine assignInOrder_cons (thn (h1 pins s σ H _ _ _ I r h) fun _ s1 ⟨σ1,H1,I1,q1⟩=>?_)
  exact h2 pins s1 σ1 H1 _ _ Q I1 rr q1
def GB (K:ck) (n:Nat) (t:TGs):TG:=fun v σ H Q=>∃ a xs,v=.ref a∧SqT K H a xs∧xs.length=n∧t xs σ H Q
theorem vK {es:List Expr} {k:Nat} {t:TGs} {n:Nat} (hc:X.calm=true) (h:PGs X es t)
 (hn:(Ie es X.env).length=n:=by rfl) (hst:(Ie es X.env).findIdx? (·.1)=none:=by rfl):PG X (.Tuple es k pos) (GB X.K n t):=by
 intro pins s σ H v u Q I r hw
 obtain ⟨a,xs,e1,hq,hl,hw⟩:=hw
 subst e1
 cases r
 obtain ⟨its,rv,ht,hz⟩:=I.tuple hq
 refine assign_Tuple_tuple (I.ok.hd hc) ht (by simp [hn,← hl,rv.length]) hst fun h' hx=>?_
 have I1:Inv X pins σ H { s with heap:=h' }:=I.kept (t':=s.toks) fun b o e=>hx b o (t_ (o_ e)) e
 exact h pins _ σ H xs _ Q I1 (by simpa using rv) hw
def GC (te:TE) (g:TG):TS:=fun D σ H=>te σ H fun x H1=>g x σ H1 D.nx
theorem gL {i:Nat} {x:Str} {e:Expr} {te:TE} {pos':Pos} (hN:X.N.Nodup) (hi:X.N[i]?=some x) (hx:Loc X.env.scope x) (he:PE X e te) (hs:HR e (some (.Name x pos')) pos.line X.env=pure false:=by rfl) (hf:X.fn x=true∨X.env.scope.names.lookup x=some .local:=by first | exact .inl rfl | exact .inr rfl | assumption) :
 PS X (.Assign [.Name x pos'] e pos) (GC te (gK i)):=by
 intro pins s σ H D I h
 refine wpAny_Assign_Name (thn (he pins s σ H _ I h) fun v s1 ⟨y,H1,I1,r1,q1⟩=>?_) hs
 exact gu I1 hN hi hx r1 (fun s2 I2=>⟨_,H1,I2,q1⟩) hf
end
section
variable {X:Cx} {pos:Pos}
def zL (c:TT) (tb:TS):TS:=fun D σ H=>∃ W:Nat→St→Hp→Prop,(∃ m,W m σ H)∧∀ m σ H,W m σ H →
 c σ H fun b H1=>if b=true then ∃ N:St→Hp→Prop,(∀ σ' H',N σ' H'→∃ m',m' < m∧W m' σ' H')∧tb { D with nx:=N,ct:=N,bk:=D.nx } σ H1 else D.nx σ H1
theorem tN {c:Expr} {body:List Stmt} {tc:TT} {tb:TS} (hp:Li (p_ X.prog X.w) X.A X.env X.xe) (hc:PT X c tc) (hb:PSs X body tb):PS X (.While c body [] pos) (zL tc tb):=by
 intro pins s σ H D I h
 obtain ⟨W,⟨m0,w0⟩,turn⟩:=h
 refine wpAny_While (codeAny_whileLoop (fun n s'=>∃ σ' H',Inv X pins σ' H' s'∧W n σ' H') ?_ m0 ⟨σ,H,I,w0⟩)
 rintro n s1 ⟨σ1,H1,I1,w1⟩
 refine JC hp (thn (hc pins s1 σ1 H1 _ I1 (turn n σ1 H1 w1)) fun b s2 ⟨H2,I2,q2⟩=>?_)
 cases b with
 | true =>
  obtain ⟨N,hN,q2⟩:=q2
  rw [if_pos rfl]
  refine JC hp (thn (hb pins s2 σ1 H2 _ I2 q2) fun f s3 q3=>?_)
  cases f with
  | next =>
   obtain ⟨σ3,H3,I3,n3⟩:=q3
   obtain ⟨m',hm,w3⟩:=hN σ3 H3 n3
   exact ⟨m',hm,σ3,H3,I3,w3⟩
  | cont =>
   obtain ⟨σ3,H3,I3,n3⟩:=q3
   obtain ⟨m',hm,w3⟩:=hN σ3 H3 n3
   exact ⟨m',hm,σ3,H3,I3,w3⟩
  | brk=>exact q3
  | ret v=>exact q3
 | false =>
  rw [if_neg pi]
  exact LY ⟨σ1,H2,I2,q2⟩
end
structure It where
 go:Nat→Hp→Prop
 yld:Nat→Hp→V→Hp→Prop
 stop:Nat→Hp→Prop
def oH (X:Cx) (pins:List (Addr×Obj)) (H:Hp) (b:Addr):Prop :=
 H b=none∧b≠X.env.locals∧b ∉ X.fs∧(b∈X.ex∨X.s₀.heap.objs.size≤b)∧(∀ x c,X.env.cells.lookup x=some c→c≠b)∧∀ p∈X.pn ++ pins,p.1≠b
theorem Inv.fpOk {X:Cx} {pins:List (Addr×Obj)} {σ:St} {H H':Hp} {s:c_} {b:Addr} (I:Inv X pins σ H s) (hb:s.heap.objs.size≤b) (hn:H' b=none):oH X pins H' b:=by
 refine ⟨hn,Kn (x_ I.lt hb),I.nofs hb,.inr (Hm I.sz hb),fun x c e z=>?_,fun p hp z=>?_⟩
 · obtain ⟨v,q⟩:=I.cell x c e
   exact absurd (x_ q.lt (by rw [z]; exact hb)) (Ik _)
 · exact absurd (x_ (o_ (I.pin p hp).1) (by rw [z]; exact hb)) (Ik _)
structure tQ (P:Program) (w:D_) (K:ck) (tg:Expr) (J:It) (fp:List Addr) (it:Addr) (tn:Nat→Heap→Prop):Prop where
 mem:it∈fp
 obj:∀ i h,tn i h→∀ b∈fp,∃ o,h.get? b=some o∧∀ v,o.data≠.cell v
 keep:∀ i h h',tn i h→(∀ b∈fp,∀ o,h.get? b=some o→h'.get? b=some o)→tn i h'
 item:∀ (X:Cx),X.prog=P→X.w=w→X.K=K→X.calm=true→∀ (i:Nat) (pins:List (Addr×Obj)) (s:c_) (σ:St) (H:Hp) (E:Value→c_→Prop),Inv X pins σ H s→(∀ b∈fp,oH X pins H b)→tn i s.heap→J.go i H →
  k_ (p_ P w) X.A (Kw (.ref it)) (fun r s1=>∃ u,r=some u ∧
   k_ (p_ P w) X.A (L4 tg (.ref it) u) (fun _ s2=>∃ x H',Inv X pins σ H' s2∧RelV x u∧J.yld i H x H'∧tn (i + 1) s2.heap∧∀ b∈fp,H' b=none) E s1) E s
 done:∀ (X:Cx),X.prog=P→X.w=w→X.K=K→X.calm=true→∀ (i:Nat) (pins:List (Addr×Obj)) (s:c_) (σ:St) (H:Hp) (E:Value→c_→Prop),Inv X pins σ H s→(∀ b∈fp,oH X pins H b)→tn i s.heap→J.stop i H →
  k_ (p_ P w) X.A (Kw (.ref it)) (fun r s1=>r=none∧Inv X pins σ H s1) E s
 self:∀ (A:w_) (i:Nat) (s:c_) (Q:Value→c_→Prop) (E:Value→c_→Prop),tn i s.heap→Q (.ref it) s→k_ (p_ P w) A (Oc (.ref it)) Q E s
abbrev TI:=St→Hp→(It→Hp→Prop)→Prop
def PIE (X:Cx) (pins:List (Addr×Obj)) (σ:St) (tg:Expr) (R:It→Hp→Prop) (itv:Value) (s2:c_):Prop :=
 ∃ (it:Addr) (fp:List Addr) (tn:Nat→Heap→Prop) (J:It) (H':Hp),itv=.ref it∧Inv X pins σ H' s2∧tQ X.prog X.w X.K tg J fp it tn∧tn 0 s2.heap∧(∀ b∈fp,oH X pins H' b)∧R J H'
def PI (X:Cx) (tg iter:Expr) (wi:TI):Prop :=
 ∀ (pins:List (Addr×Obj)) (s:c_) (σ:St) (H:Hp) (R:It→Hp→Prop),Inv X pins σ H s→wi σ H R →
  k_ (p_ X.prog X.w) X.A (eval iter X.env) (fun v s1=>k_ (p_ X.prog X.w) X.A (Oc v) (PIE X pins σ tg R) X.xe s1) X.xe s
theorem tR {M:MD} {A:w_} {E:Value→c_→Prop} {s:c_} {tg:Expr} {it:Addr} {u:Value} {o:Obj} {n:String} {vs:Array Value} {Q:Unit→c_→Prop} (ho:s.heap.get? it=some o) (hc:o.cls=.type n) (hd:o.data=.fields vs)
 (hn:["enumerate","zip","dict_itemiterator","dict_reverseitemiterator","odict_iterator","itertools.zip_longest","itertools.pairwise"].contains n=false) (hQ:Q () s):k_ M A (L4 tg (.ref it) u) Q E s:=by
 unfold L4
 cases tg <;> first
  | exact d_ hQ
  | (cases u <;> first
      | exact d_ hQ
      | (refine b_ (wpAny_load ho ?_)
         rw [hc,hd]
         show k_ M A (if (["enumerate","zip","dict_itemiterator","dict_reverseitemiterator","odict_iterator","itertools.zip_longest","itertools.pairwise"].contains n && vs[0]? == some (IT _))=true then _ else _) Q E s
         rw [if_neg (by intro h; rw [hn,Bool.false_and] at h; cases h)]
         exact d_ hQ))
def Itl (K:ck) (a:Addr):It :=
 ⟨fun i H=>∃ xs x,SqL K H a xs∧xs[i]?=some x,fun i H x H'=>H'=H∧∀ xs,SqL K H a xs→xs[i]?=some x,fun i H=>∃ xs,SqL K H a xs∧xs.length≤i⟩
def Itt (K:ck) (a:Addr):It :=
 ⟨fun i H=>∃ xs x,SqT K H a xs∧xs[i]?=some x,fun i H x H'=>H'=H∧∀ xs,SqT K H a xs→xs[i]?=some x,fun i H=>∃ xs,SqT K H a xs∧xs.length≤i⟩
def Itr (lo:Int) (n:Nat):It:=⟨fun i _=>i < n,fun i H x H'=>H'=H∧x=.int (lo + i),fun i _=>n≤i⟩
theorem pQ {P:Program} {w:D_} {K:ck} {tg:Expr} (a it:Addr):tQ P w K tg (Itl K a) [it] it (fun i h=>h.IsListIter it a i) where
 mem:=by simp
 obj:=fun i h st b hb=>by
  have e:b=it:=by simpa using hb
  subst e
  obtain ⟨o,e,c,d⟩:=st
  exact ⟨o,e,fun v z=>by rw [d] at z; cases z⟩
 keep:=fun i h h' st k=>st.at fun o e=>k it (by simp) o e
 item:=by
  intro X hP hw hK hc i pins s σ H E I hf st hg
  subst hP hw hK
  obtain ⟨xs,x,hq,hx⟩:=hg
  obtain ⟨its,rv,p,hz⟩:=I.list hq
  obtain ⟨u,hu,ru⟩:=rv.get hx
  obtain ⟨f0,f1,f2,f3,f4,f5⟩:=hf it (by simp)
  refine wpAny_pyNext_list_item st p.isList (x:=u) (by simpa using hu) fun h' st' sb=>?_
  have I1:Inv X pins σ H { s with heap:=h' }:=I.turned (t':=s.toks) (fun b o hb e=>(sb.2 b hb).trans e) f0 f1 f3 f4 f5
  obtain ⟨o,e,c,d⟩:=id st'
  exact ⟨u,rfl,tR (s:={ s with heap:=h' }) e c d (by decide) ⟨x,H,I1,ru,⟨rfl,fun ys hy=>by rw [I.list_inj hy hq]; exact hx⟩,st',fun b hb=>(hf b hb).1⟩⟩
 done:=by
  intro X hP hw hK hc i pins s σ H E I hf st hg
  subst hP hw hK
  obtain ⟨xs,hq,hx⟩:=hg
  obtain ⟨its,rv,p,hz⟩:=I.list hq
  obtain ⟨f0,f1,f2,f3,f4,f5⟩:=hf it (by simp)
  have hl:=rv.length
  exact wpAny_pyNext_list_end (I.ok.hd hc) st p.isList (by simp; omega) fun h' eb=>⟨rfl,I.turned (t':=s.toks) (fun b o hb e=>eb b o hb e) f0 f1 f3 f4 f5⟩
 self:=fun _ _ _ _ _ st h=>wpAny_pyIter_listiter st h
theorem oI {P:Program} {w:D_} {K:ck} {tg:Expr} (a it:Addr):tQ P w K tg (Itt K a) [it] it (fun i h=>h.IsTupleIter it a i) where
 mem:=by simp
 obj:=fun i h st b hb=>by
  have e:b=it:=by simpa using hb
  subst e
  obtain ⟨o,e,c,d⟩:=st
  exact ⟨o,e,fun v z=>by rw [d] at z; cases z⟩
 keep:=fun i h h' st k=>st.at fun o e=>k it (by simp) o e
 item:=by
  intro X hP hw hK hc i pins s σ H E I hf st hg
  subst hP hw hK
  obtain ⟨xs,x,hq,hx⟩:=hg
  obtain ⟨its,rv,p,hz⟩:=I.tuple hq
  obtain ⟨u,hu,ru⟩:=rv.get hx
  obtain ⟨f0,f1,f2,f3,f4,f5⟩:=hf it (by simp)
  refine wpAny_pyNext_tuple_item st (show s.heap.IsTuple a its.toArray from p) (x:=u) (by simpa using hu) fun h' st' sb=>?_
  have I1:Inv X pins σ H { s with heap:=h' }:=I.turned (t':=s.toks) (fun b o hb e=>(sb.2 b hb).trans e) f0 f1 f3 f4 f5
  obtain ⟨o,e,c,d⟩:=id st'
  exact ⟨u,rfl,tR (s:={ s with heap:=h' }) e c d (by decide) ⟨x,H,I1,ru,⟨rfl,fun ys hy=>by rw [I.tuple_inj hy hq]; exact hx⟩,st',fun b hb=>(hf b hb).1⟩⟩
 done:=by
  intro X hP hw hK hc i pins s σ H E I hf st hg
  subst hP hw hK
  obtain ⟨xs,hq,hx⟩:=hg
  obtain ⟨its,rv,p,hz⟩:=I.tuple hq
  obtain ⟨f0,f1,f2,f3,f4,f5⟩:=hf it (by simp)
  have hl:=rv.length
  exact wpAny_pyNext_tuple_end (I.ok.hd hc) st (show s.heap.IsTuple a its.toArray from p) (by simp; omega) fun h' eb=>⟨rfl,I.turned (t':=s.toks) (fun b o hb e=>eb b o hb e) f0 f1 f3 f4 f5⟩
 self:=fun _ _ _ _ _ st h=>wpAny_pyIter_tupleiter st h
theorem oJ {P:Program} {w:D_} {K:ck} {tg:Expr} (it:Addr) (lo:Int) (n:Nat):tQ P w K tg (Itr lo n) [it] it (fun i h=>IsRangeIter h it (lo + (i:Nat) * 1) ((n:Int) - (i:Nat)) 1) where
 mem:=by simp
 obj:=fun i h st b hb=>by
  have e:b=it:=by simpa using hb
  subst e
  exact ⟨_,st,fun v z=>by
   have z':Pc _=Data.cell v:=z
   cases z'⟩
 keep:=fun i h h' st k=>k it (by simp) _ st
 item:=by
  intro X hP hw hK hc i pins s σ H E I hf st hg
  subst hP hw hK
  obtain ⟨f0,f1,f2,f3,f4,f5⟩:=hf it (by simp)
  have W:=Walks.range (prog:=X.prog) (w:=X.w) (I.ok.hd hc) it lo 1 n
  refine W.item i s _ _ hg st fun v h' tk hv st' kk=>?_
  obtain ⟨t,rfl⟩:=hv
  have I1:Inv X pins σ H { s with heap:=h',toks:=tk }:=I.turned (fun b o hb e=>kk b o (by simpa using hb) e) f0 f1 f3 f4 f5
  refine ⟨_,rfl,tR (s:={ s with heap:=h',toks:=tk }) (n:="range_iterator") st' rfl rfl (by decide) ⟨.int (lo + i),H,I1,⟨t,?_⟩,⟨rfl,rfl⟩,st',fun b hb=>(hf b hb).1⟩⟩
  rw [Int.mul_one]
 done:=by
  intro X hP hw hK hc i pins s σ H E I hf st hg
  subst hP hw hK
  obtain ⟨f0,f1,f2,f3,f4,f5⟩:=hf it (by simp)
  exact wpAny_pyNext_range_end (I.ok.hd hc) st (by have:n≤i:=hg; omega) fun h' eb=>⟨rfl,I.turned (t':=s.toks) (fun b o hb e=>eb b o hb e) f0 f1 f3 f4 f5⟩
 self:=fun _ _ _ _ _ st h=>wpAny_pyIter_rangeiter st h
section
variable {X:Cx} {tg:Expr}
theorem mM {pins:List (Addr×Obj)} {σ:St} {H:Hp} {s:c_} {R:It→Hp→Prop} {E:Value→c_→Prop} {lo hi:Int} {t u v:Tok} {tk:Nat} (I:Inv X pins σ H s) (h1:-(2 ^ 62)≤lo) (h2:lo < 2 ^ 62) (h3:-(2 ^ 62)≤hi) (h4:hi < 2 ^ 62)
 (q:R (Itr lo (hi - lo).toNat) H):k_ (p_ X.prog X.w) X.A (Oc (.ref s.heap.objs.size)) (PIE X pins σ tg R) E { s with heap:=s.heap.push { cls:=.type "range",data:=.fields #[.int lo t,.int hi u,.int 1 v] },toks:=tk }:=by
 refine wpAny_pyIter_range (IsRange.new ..) (small_one h1 h2 h3 h4) ?_
 have I1:Inv X pins σ H { s with heap:=s.heap.push { cls:=.type "range",data:=.fields #[.int lo t,.int hi u,.int 1 v] },toks:=tk }:=I.kept fun b o e=>e_ _ e
 refine ⟨(s.heap.push { cls:=.type "range",data:=.fields #[.int lo t,.int hi u,.int 1 v] }).objs.size,[(s.heap.push { cls:=.type "range",data:=.fields #[.int lo t,.int hi u,.int 1 v] }).objs.size],_,_,H,rfl,
  I1.kept (t':=tk) fun b o e=>e_ _ e,oJ _ lo (hi - lo).toNat,?_,fun b hb=>?_,q⟩
 · have e1:lo + ((0:Nat):Int) * 1=lo:=by simp
   have e2:(((hi - lo).toNat:Nat):Int) - ((0:Nat):Int)=Builtin.Range.rangeSize lo hi 1:=by rw [rangeSize_one]; split <;> omega
   show IsRangeIter _ _ (lo + ((0:Nat):Int) * 1) ((((hi - lo).toNat:Nat):Int) - ((0:Nat):Int)) 1
   rw [e1,e2]
   exact i_ _ rfl
 · have e:b=(s.heap.push { cls:=.type "range",data:=.fields #[.int lo t,.int hi u,.int 1 v] }).objs.size:=by simpa using hb
   subst e
   exact I1.fpOk (n_ _) (I1.hok.fresh (n_ _))
def DM (ta:TA):TI:=fun σ H R=>ta σ H fun vs H1=>∃ j:Int,vs=[.int j]∧-(2 ^ 62)≤j∧j < 2 ^ 62∧R (Itr 0 j.toNat) H1
def DN (ta:TA):TI:=fun σ H R=>ta σ H fun vs H1=>∃ i j:Int,vs=[.int i,.int j]∧(-(2 ^ 62)≤i∧i < 2 ^ 62∧-(2 ^ 62)≤j∧j < 2 ^ 62)∧R (Itr i (j - i).toNat) H1
theorem pR {a:Expr} {ta:TA} {p pos:Pos} (hg:Gl X "range") (hm:X.mg "range"=none) (ha:PA X [a] ta) (hs:f_ [a] X.env=[(false,eval a X.env)]:=by rfl):PI X tg (.Call (.Name "range" p) [a] [] pos) (DM ta):=by
 intro pins s σ H R I h
 refine Call_ (dh I hg hm boot_range (H_ (thn (ha pos pins s σ H _ I h) fun us s1 ⟨vs,H1,I1,r1,q1⟩=>?_) hs rfl))
 obtain ⟨j,e,q1,q2,q⟩:=q1
 subst e
 cases r1 with
 | cons r rr =>
  cases rr
  obtain ⟨t,rfl⟩:=r
  exact call_range_1 (mM I1 (by omega) (by omega) q1 q2 (by simpa using q))
theorem pS {a b:Expr} {ta:TA} {p pos:Pos} (hg:Gl X "range") (hm:X.mg "range"=none) (ha:PA X [a,b] ta) (hs:f_ [a,b] X.env=[(false,eval a X.env),(false,eval b X.env)]:=by rfl) (hs2:f_ [b] X.env=[(false,eval b X.env)]:=by rfl) :
 PI X tg (.Call (.Name "range" p) [a,b] [] pos) (DN ta):=by
 intro pins s σ H R I h
 refine Call_ (dh I hg hm boot_range (H_ (thn (ha pos pins s σ H _ I h) fun us s1 ⟨vs,H1,I1,r1,q1⟩=>?_) (by rw [hs,hs2]) (by rw [hs2]; rfl)))
 obtain ⟨i,j,e,⟨q1,q2,q3,q4⟩,q⟩:=q1
 subst e
 cases r1 with
 | cons r rr =>
  cases rr with
  | cons r' rr =>
   cases rr
   obtain ⟨t,rfl⟩:=r
   obtain ⟨t',rfl⟩:=r'
   exact call_range_2 (mM I1 q1 q2 q3 q4 q)
def GD (wi:TI) (g:TG) (tb:TS):TS:=fun D σ H=>wi σ H fun J H1=>∃ W:Nat→Nat→St→Hp→Prop,(∃ m,W 0 m σ H1)∧∀ i m σ H,W i m σ H →
 (J.stop i H∧D.nx σ H)∨(J.go i H∧∃ N:St→Hp→Prop,(∀ σ' H',N σ' H'→∃ m',m' < m∧W (i + 1) m' σ' H')∧∀ x H',J.yld i H x H'→g x σ H' fun σ2 H2=>tb { D with nx:=N,ct:=N,bk:=D.nx } σ2 H2)
def bL (fp:List Addr) (h:Heap):List (Addr×Obj):=fp.filterMap fun b=>(h.get? b).map fun o=>(b,o)
theorem bA {fp:List Addr} {h:Heap} {b:Addr} {o:Obj} (hb:b∈fp) (e:h.get? b=some o):(b,o)∈bL fp h:=Mx.mpr ⟨b,hb,by rw [e]; rfl⟩
theorem gM {fp:List Addr} {h:Heap} {p:Addr×Obj} (hp:p∈bL fp h):p.1∈fp∧h.get? p.1=some p.2:=by
 obtain ⟨b,hb,e⟩:=Mx.mp hp
 cases q:h.get? b with
 | none=>rw [q] at e; cases e
 | some o =>
  rw [q] at e
  have e':(b,o)=p:=HN e
  subst e'
  exact ⟨hb,q⟩
theorem Inv.pinned {pins:List (Addr×Obj)} {σ:St} {H:Hp} {s:c_} {fp:List Addr} (I:Inv X pins σ H s) (hf:∀ b∈fp,oH X pins H b) (ho:∀ b∈fp,∃ o,s.heap.get? b=some o∧∀ v,o.data≠.cell v):Inv X (pins ++ bL fp s.heap) σ H s :=
 I.pins_of fun p hp=>(HC.mp hp).elim (fun z=>I.pin p (r_ _ z)) fun z=>by
  obtain ⟨hb,e⟩:=gM z
  obtain ⟨f0,f1,f2,_⟩:=hf p.1 hb
  obtain ⟨o,e',d⟩:=ho p.1 hb
  rw [e] at e'; cases e'
  exact ⟨e,f0,f1,f2,d⟩
theorem Inv.unpinned {pins pl:List (Addr×Obj)} {σ:St} {H:Hp} {s:c_} (I:Inv X (pins ++ pl) σ H s):Inv X pins σ H s:=I.pins_of fun p hp=>I.pin p (r_ _ (Hv _ hp))
theorem pU {iter:Expr} {body:List Stmt} {wi:TI} {g:TG} {tb:TS} {pos:Pos} (hp:Li (p_ X.prog X.w) X.A X.env X.xe) (hc:X.calm=true) (hi:PI X tg iter wi) (hg:PG X tg g) (hb:PSs X body tb)
 (hs:∀ x,Hr iter X.env x=pure x:=by intro _; rfl):PS X (.For tg iter body [] pos) (GD wi g tb):=by
 intro pins s σ H D I h
 refine wpAny_For (thn (hi pins s σ H _ I h) fun v s1 h1=>thn h1 fun itv s2 h2=>?_) hs
 obtain ⟨it,fp,tn,J,H2,e,I2,T,st2,f2,W,⟨m0,w0⟩,turn⟩:=h2
 subst e
 have stat:∀ {H':Hp},(∀ b∈fp,H' b=none)→∀ b∈fp,oH X pins H' b:=fun hn b hb=>⟨hn b hb,(f2 b hb).2⟩
 refine codeAny_forLoop_any (fun n s'=>∃ i σ' H',Inv X pins σ' H' s'∧tn i s'.heap∧(∀ b∈fp,H' b=none)∧W i n σ' H') ?_ m0 ⟨0,σ,H2,I2,st2,fun b hb=>(f2 b hb).1,w0⟩
 rintro n s3 ⟨i,σ3,H3,I3,st3,fr3,w3⟩
 rcases turn i n σ3 H3 w3 with ⟨stop,qn⟩ | ⟨go,N,hN,step⟩
 · refine JC hp (thn (T.done X rfl rfl rfl hc i pins s3 σ3 H3 X.xe I3 (stat fr3) st3 stop) fun r s4 ⟨hr,I4⟩=>?_)
   subst hr
   exact LY ⟨σ3,H3,I4,qn⟩
 · refine JC hp (thn (T.item X rfl rfl rfl hc i pins s3 σ3 H3 X.xe I3 (stat fr3) st3 go) fun r s4 ⟨u,hr,h4⟩=>?_)
   subst hr
   refine JC hp (thn h4 fun _ s5 ⟨x,H5,I5,r5,y5,st5,fr5⟩=>?_)
   have I5':=I5.pinned (stat fr5) (T.obj _ _ st5)
   refine JC hp (thn (hg _ s5 σ3 H5 x u _ I5' r5 (step x H5 y5)) fun _ s6 ⟨σ6,H6,I6,q6⟩=>?_)
   refine JC hp (thn (hb _ s6 σ6 H6 _ I6 q6) fun f s7 q7=>?_)
   have Pu:∀ {σ7:St} {H7:Hp},Inv X (pins ++ bL fp s5.heap) σ7 H7 s7→N σ7 H7→∃ m,m < n∧∃ i σ' H',Inv X pins σ' H' s7∧tn i s7.heap∧(∀ b∈fp,H' b=none)∧W i m σ' H':=fun {σ7 H7} I7 n7=>by
    obtain ⟨m',hm,w7⟩:=hN σ7 H7 n7
    refine ⟨m',hm,i + 1,σ7,H7,I7.unpinned,T.keep _ _ _ st5 fun b hb o e=>(I7.pin (b,o) (r_ _ (r_ _ (bA hb e)))).1,fun b hb=>?_,w7⟩
    obtain ⟨o,e,d⟩:=T.obj _ _ st5 b hb
    exact (I7.pin (b,o) (r_ _ (r_ _ (bA hb e)))).2.1
   cases f with
   | next=>obtain ⟨σ7,H7,I7,n7⟩:=q7; exact Pu I7 n7
   | cont=>obtain ⟨σ7,H7,I7,n7⟩:=q7; exact Pu I7 n7
   | brk=>obtain ⟨σ7,H7,I7,q7⟩:=q7; exact ⟨σ7,H7,I7.unpinned,q7⟩
   | ret v=>obtain ⟨x7,σ7,H7,I7,r7,q7⟩:=q7; exact ⟨x7,σ7,H7,I7.unpinned,r7,q7⟩
end
abbrev R2:=V→V→Hp→VK→Prop
def OpR (X:Cx) (f:Value→Value→Sem Value) (r:R2):Prop :=
 ∀ (pins:List (Addr×Obj)) (s:c_) (σ:St) (H:Hp) (x y:V) (v u:Value) (Q:VK),Inv X pins σ H s→RelV x v→RelV y u→r x y H Q →
  k_ (p_ X.prog X.w) X.A (f v u) (EP X pins σ Q) X.xe s
def UnR (X:Cx) (f:Value→Sem Value) (r:V→Hp→VK→Prop):Prop :=
 ∀ (pins:List (Addr×Obj)) (s:c_) (σ:St) (H:Hp) (x:V) (v:Value) (Q:VK),Inv X pins σ H s→RelV x v→r x H Q →
  k_ (p_ X.prog X.w) X.A (f v) (EP X pins σ Q) X.xe s
def CallR (X:Cx) (f:Value) (r:List V→Hp→VK→Prop):Prop :=
 ∀ (pins:List (Addr×Obj)) (s:c_) (σ:St) (H:Hp) (xs:List V) (us:List Value) (Q:VK),Inv X pins σ H s→Vals xs us→r xs H Q →
  k_ (p_ X.prog X.w) X.A (call f us) (EP X pins σ Q) X.xe s
def tOp (r:R2) (ta tb:TE):TE:=fun σ H Q=>ta σ H fun x H1=>tb σ H1 fun y H2=>r x y H2 Q
def tUn (r:V→Hp→VK→Prop) (ta:TE):TE:=fun σ H Q=>ta σ H fun x H1=>r x H1 Q
def rI (C:Int→Int→Prop) (g:Int→Int→V):R2:=fun x y H Q=>∃ i j,x=.int i∧y=.int j∧C i j∧Q (g i j) H
def rI0 (g:Int→Int→V):R2:=fun x y H Q=>∃ i j,x=.int i∧y=.int j∧Q (g i j) H
def rU (g:Int→V):V→Hp→VK→Prop:=fun x H Q=>∃ i,x=.int i∧Q (g i) H
section
variable {X:Cx} {a b c:Expr} {ta tb tc:TE} {pos:Pos}
theorem DO (ha:PE X a ta) (hb:PE X b tb) {pins:List (Addr×Obj)} {s:c_} {σ:St} {H:Hp} {R:V→V→Hp→Prop} (I:Inv X pins σ H s)
 (h:ta σ H fun x H1=>tb σ H1 fun y H2=>R x y H2) {Q:Value→c_→Prop} {f:Value→Value→Sem Value}
 (hf:∀ v u s2 x y H2,Inv X pins σ H2 s2→RelV x v→RelV y u→R x y H2→k_ (p_ X.prog X.w) X.A (f v u) Q X.xe s2) :
 k_ (p_ X.prog X.w) X.A (eval a X.env) (fun v s₁=>k_ (p_ X.prog X.w) X.A (eval b X.env) (fun u s₂=>k_ (p_ X.prog X.w) X.A (f v u) Q X.xe s₂) X.xe s₁) X.xe s:=by
 refine thn (ha pins s σ H _ I h) fun v s1 ⟨x,H1,I1,r1,q1⟩=>?_
 refine thn (hb pins s1 σ H1 _ I1 q1) fun u s2 ⟨y,H2,I2,r2,q2⟩=>?_
 exact hf v u s2 x y H2 I2 r1 r2 q2
theorem DP {op:Operator} {r:R2} (ho:OpR X (Jd op) r) (ha:PE X a ta) (hb:PE X b tb):PE X (.BinOp a op b pos) (tOp r ta tb):=by
 intro pins s σ H Q I h
 exact wpAny_BinOp (DO ha hb I h fun v u s2 x y H2 I2 rx ry q=>ho pins s2 σ H2 x y v u Q I2 rx ry q)
theorem DQ {op:UnaryOp} {r:V→Hp→VK→Prop} (ho:UnR X (unaryOp op) r) (ha:PE X a ta):PE X (.UnaryOp op a pos) (tUn r ta):=by
 intro pins s σ H Q I h
 exact UnaryOp_ (thn (ha pins s σ H _ I h) fun v s1 ⟨x,H1,I1,r1,q1⟩=>ho pins s1 σ H1 x v Q I1 r1 q1)
theorem opI {f:Value→Value→Sem Value} {C:Int→Int→Prop} {g:Int→Int→Int}
 (rule:∀ (i j:Int) (t u:Tok) (s:c_) (Q:Value→c_→Prop) (E:Value→c_→Prop),C i j→Q (.int (g i j) s.toks) { s with toks:=s.toks + 1 }→k_ (p_ X.prog X.w) X.A (f (.int i t) (.int j u)) Q E s) :
 OpR X f (rI C fun i j=>.int (g i j)):=by
 intro pins s σ H x y v u Q I rx ry h
 obtain ⟨i,j,rfl,rfl,hc,q⟩:=h
 obtain ⟨t,rfl⟩:=rx
 obtain ⟨t',rfl⟩:=ry
 exact rule i j t t' s _ _ hc ⟨.int (g i j),H,I.tok _,⟨_,rfl⟩,q⟩
theorem FV {f:Value→Value→Sem Value} {g:Int→Int→Int}
 (rule:∀ (i j:Int) (t u:Tok) (s:c_) (Q:Value→c_→Prop) (E:Value→c_→Prop),Q (.int (g i j) s.toks) { s with toks:=s.toks + 1 }→k_ (p_ X.prog X.w) X.A (f (.int i t) (.int j u)) Q E s) :
 OpR X f (rI0 fun i j=>.int (g i j)):=by
 intro pins s σ H x y v u Q I rx ry h
 obtain ⟨i,j,rfl,rfl,q⟩:=h
 obtain ⟨t,rfl⟩:=rx
 obtain ⟨t',rfl⟩:=ry
 exact rule i j t t' s _ _ ⟨.int (g i j),H,I.tok _,⟨_,rfl⟩,q⟩
theorem DR {f:Value→Value→Sem Value} {g:Int→Int→Bool}
 (rule:∀ (i j:Int) (t u:Tok) (s:c_) (Q:Value→c_→Prop) (E:Value→c_→Prop),Q (.bool (g i j)) s→k_ (p_ X.prog X.w) X.A (f (.int i t) (.int j u)) Q E s) :
 OpR X f (rI0 fun i j=>.bl (g i j)):=by
 intro pins s σ H x y v u Q I rx ry h
 obtain ⟨i,j,rfl,rfl,q⟩:=h
 obtain ⟨t,rfl⟩:=rx
 obtain ⟨t',rfl⟩:=ry
 exact rule i j t t' s _ _ ⟨.bl (g i j),H,I,rfl,q⟩
def FX (i j:Int):Prop:=0 < j∧j < 1073741824
def CMul (i j:Int):Prop:=(-(2 ^ 64) < i∧i < 2 ^ 64)∨(-(2 ^ 64) < j∧j < 2 ^ 64)
theorem CMul.ok {i j:Int} (h:CMul i j):IntMulOk i j:=by
 rcases h with ⟨h1,h2⟩ | ⟨h1,h2⟩
 · exact .of_left (intBits_le_64 h1 h2)
 · exact .of_right (intBits_le_64 h1 h2)
theorem op_add:OpR X (Jd .Add) (rI0 fun i j=>.int (i + j)):=FV fun _ _ _ _ _ _ _ q=>add_int q
theorem zM:OpR X (Jd .Sub) (rI0 fun i j=>.int (i - j)):=FV fun _ _ _ _ _ _ _ q=>sub_int q
theorem vL:OpR X (Jd .Mult) (rI CMul fun i j=>.int (i * j)):=opI fun _ _ _ _ _ _ _ hc q=>mul_int q hc.ok
theorem wD:OpR X (Jd .FloorDiv) (rI FX fun i j=>.int (i / j)):=opI fun i j _ _ _ _ _ hc q=>by
 have h1:(0:Int) < j:=hc.1
 have h2:j < 1073741824:=hc.2
 exact floordiv_int (by omega) (by rw [Int.fdiv_eq_ediv_of_nonneg i (by omega)]; exact q) (.inl (PyProof.noPylong_small (by omega)))
theorem zN:OpR X (Jd .Mod) (rI (fun _ j=>0 < j) fun i j=>.int (i % j)):=opI fun i j _ _ _ _ _ hc q=>by
 have h1:(0:Int) < j:=hc
 exact mod_int' (by omega) (by rw [Int.fmod_eq_emod_of_nonneg i (by omega)]; exact q)
theorem unI {f:Value→Sem Value} {g:Int→Int}
 (rule:∀ (i:Int) (t:Tok) (s:c_) (Q:Value→c_→Prop) (E:Value→c_→Prop),Q (.int (g i) s.toks) { s with toks:=s.toks + 1 }→k_ (p_ X.prog X.w) X.A (f (.int i t)) Q E s) :
 UnR X f (rU fun i=>.int (g i)):=by
 intro pins s σ H x v Q I rx h
 obtain ⟨i,rfl,q⟩:=h
 obtain ⟨t,rfl⟩:=rx
 exact rule i t s _ _ ⟨.int (g i),H,I.tok _,⟨_,rfl⟩,q⟩
theorem zO:UnR X (unaryOp .USub) (rU fun i=>.int (-i)):=unI fun _ _ _ _ _ q=>neg_int q
end
def DT:V→V→Bool
 | .non,.non=>true | .non,.int _=>true | .int _,.non=>true | .non,.bl _=>true | .bl _,.non=>true | .non,.str _=>true | .str _,.non=>true
 | .int _,.int _=>true | .bl _,.bl _=>true | .str _,.str _=>true | .byt _,.byt _=>true
 | .int _,.str _=>true | .str _,.int _=>true | .bl _,.str _=>true | .str _,.bl _=>true
 | _,_=>false
def rEq:R2:=fun x y H Q=>DT x y=true∧Q (.bl (decide (x=y))) H
def rNe:R2:=fun x y H Q=>DT x y=true∧Q (.bl (!decide (x=y))) H
theorem lE {i j:Int}:decide (V.int i=V.int j)=(i == j):=by
 rw [HG]
 simp
theorem pV {i j:Bool}:decide (V.bl i=V.bl j)=(i == j):=by
 rw [HG]
 simp
theorem lF {i j:Str}:decide (V.str i=V.str j)=(i == j):=by
 rw [HG]
 simp
theorem pW {i j:Array UInt8}:decide (V.byt i=V.byt j)=(i.toList == j.toList):=by
 rw [HG]
 cases i
 cases j
 simp
section
variable {X:Cx} {a b c:Expr} {ta tb tc:TE} {pos:Pos}
theorem aL {pins:List (Addr×Obj)} {σ:St} {H:Hp} {s:c_} {Q:VK} {k k':Bool} (I:Inv X pins σ H s) (q:Q (.bl k) H) (e:k=k'):EP X pins σ Q (.bool k') s:=by
 subst e
 exact ⟨.bl k,H,I,rfl,q⟩
theorem op_eq:OpR X (Hu .Eq) rEq:=by
 intro pins s σ H x y v u Q I rx ry h
 obtain ⟨hs,q⟩:=h
 cases x with
 | non =>
  cases rx
  cases y with
  | non=>cases ry; exact PySem.EqNone.eq_none_none (aL I q (by simp))
  | bl j=>cases ry; exact PySem.EqNone.eq_none_bool (aL I q (by simp))
  | int j=>obtain ⟨t',rfl⟩:=ry; exact PySem.EqNone.eq_none_int (aL I q (by simp))
  | str j=>obtain ⟨t',rfl⟩:=ry; exact PySem.EqNone.eq_none_str (aL I q (by simp))
  | _=>exact absurd (show false=true from hs) pi
 | bl i =>
  cases rx
  cases y with
  | non=>cases ry; exact PySem.EqNone.eq_bool_none (aL I q (by simp))
  | bl j=>cases ry; exact eq_bool (aL I q pV)
  | str j=>obtain ⟨t',rfl⟩:=ry; exact PySem.EqMixed.eq_bool_str (aL I q (by simp))
  | _=>exact absurd (show false=true from hs) pi
 | int i =>
  obtain ⟨t,rfl⟩:=rx
  cases y with
  | non=>cases ry; exact PySem.EqNone.eq_int_none (aL I q (by simp))
  | int j=>obtain ⟨t',rfl⟩:=ry; exact eq_int (aL I q lE)
  | str j=>obtain ⟨t',rfl⟩:=ry; exact PySem.EqMixed.eq_int_str (aL I q (by simp))
  | _=>exact absurd (show false=true from hs) pi
 | str i =>
  obtain ⟨t,rfl⟩:=rx
  cases y with
  | non=>cases ry; exact PySem.EqNone.eq_str_none (aL I q (by simp))
  | bl j=>cases ry; exact PySem.EqMixed.eq_str_bool (aL I q (by simp))
  | int j=>obtain ⟨t',rfl⟩:=ry; exact PySem.EqMixed.eq_str_int (aL I q (by simp))
  | str j=>obtain ⟨t',rfl⟩:=ry; exact eq_str (aL I q lF)
  | _=>exact absurd (show false=true from hs) pi
 | byt i =>
  obtain ⟨t,rfl⟩:=rx
  cases y with
  | byt j=>obtain ⟨t',rfl⟩:=ry; exact PySem.W.eq_bytes (aL I q pW)
  | _=>exact absurd (show false=true from hs) pi
 | _=>cases y <;> exact absurd (show false=true from hs) pi
theorem op_ne:OpR X (Hu .NotEq) rNe:=by
 intro pins s σ H x y v u Q I rx ry h
 obtain ⟨hs,q⟩:=h
 cases x with
 | non =>
  cases rx
  cases y with
  | non=>cases ry; exact PySem.EqNone.ne_none_none (aL I q (by simp))
  | bl j=>cases ry; exact PySem.EqNone.ne_none_bool (aL I q (by simp))
  | int j=>obtain ⟨t',rfl⟩:=ry; exact PySem.EqNone.ne_none_int (aL I q (by simp))
  | str j=>obtain ⟨t',rfl⟩:=ry; exact PySem.EqNone.ne_none_str (aL I q (by simp))
  | _=>exact absurd (show false=true from hs) pi
 | bl i =>
  cases rx
  cases y with
  | non=>cases ry; exact PySem.EqNone.ne_bool_none (aL I q (by simp))
  | bl j=>cases ry; exact ne_bool (aL I q (congrArg not pV))
  | str j=>obtain ⟨t',rfl⟩:=ry; exact PySem.EqMixed.ne_bool_str (aL I q (by simp))
  | _=>exact absurd (show false=true from hs) pi
 | int i =>
  obtain ⟨t,rfl⟩:=rx
  cases y with
  | non=>cases ry; exact PySem.EqNone.ne_int_none (aL I q (by simp))
  | int j=>obtain ⟨t',rfl⟩:=ry; exact ne_int (aL I q (congrArg not lE))
  | str j=>obtain ⟨t',rfl⟩:=ry; exact PySem.EqMixed.ne_int_str (aL I q (by simp))
  | _=>exact absurd (show false=true from hs) pi
 | str i =>
  obtain ⟨t,rfl⟩:=rx
  cases y with
  | non=>cases ry; exact PySem.EqNone.ne_str_none (aL I q (by simp))
  | bl j=>cases ry; exact PySem.EqMixed.ne_str_bool (aL I q (by simp))
  | int j=>obtain ⟨t',rfl⟩:=ry; exact PySem.EqMixed.ne_str_int (aL I q (by simp))
  | str j=>obtain ⟨t',rfl⟩:=ry; exact ne_str (aL I q (congrArg not lF))
  | _=>exact absurd (show false=true from hs) pi
 | byt i =>
  obtain ⟨t,rfl⟩:=rx
  cases y with
  | byt j=>obtain ⟨t',rfl⟩:=ry; exact PySem.W.ne_bytes (aL I q (congrArg not pW))
  | _=>exact absurd (show false=true from hs) pi
 | _=>cases y <;> exact absurd (show false=true from hs) pi
theorem op_lt:OpR X (Hu .Lt) (rI0 fun i j=>.bl (decide (i < j))):=DR fun _ _ _ _ _ _ _ q=>lt_int q
theorem op_le:OpR X (Hu .LtE) (rI0 fun i j=>.bl (decide (i≤j))):=DR fun _ _ _ _ _ _ _ q=>le_int q
theorem DU:OpR X (Hu .Gt) (rI0 fun i j=>.bl (decide (j < i))):=DR fun _ _ _ _ _ _ _ q=>gt_int q
theorem pX:OpR X (Hu .Lt) (fun x y H Q=>∃ i j,x=.str i∧y=.str j∧Q (.bl (decide (i.cps.toList < j.cps.toList))) H):=by
 intro pins s σ H x y v u Q I rx ry h
 obtain ⟨i,j,rfl,rfl,q⟩:=h
 obtain ⟨t,rfl⟩:=rx
 obtain ⟨t',rfl⟩:=ry
 exact lt_str (aL I q rfl)
theorem op_in_str:OpR X (Hu .In) (fun x y H Q=>∃ i j,x=.str i∧y=.str j∧Q (.bl (!(Hx j i 0 j.length 1).isEmpty)) H):=by
 intro pins s σ H x y v u Q I rx ry h
 obtain ⟨i,j,rfl,rfl,q⟩:=h
 obtain ⟨t,rfl⟩:=rx
 obtain ⟨t',rfl⟩:=ry
 exact in_str (aL I q rfl)
theorem vM:OpR X (Hu .Is) (fun x y H Q=>y=.non∧Q (.bl (decide (x=.non))) H):=by
 intro pins s σ H x y v u Q I rx ry h
 obtain ⟨rfl,q⟩:=h
 cases ry
 refine is_none_gen (aL I q ?_)
 cases x <;> first
  | (cases rx; rfl)
  | (obtain ⟨t,rfl⟩:=rx; rfl)
theorem OpR.or {f:Value→Value→Sem Value} {r r':R2} (h:OpR X f r) (h':OpR X f r'):OpR X f (fun x y H Q=>r x y H Q∨r' x y H Q):=by
 intro pins s σ H x y v u Q I rx ry q
 rcases q with q | q
 · exact h pins s σ H x y v u Q I rx ry q
 · exact h' pins s σ H x y v u Q I rx ry q
theorem FY (b:Expr) {op:CmpOp} (h:op≠.In:=by decide) (h2:op≠.NotIn:=by decide):Hw op b=false:=by
 have e1:(op == CmpOp.In)=false:=by cases op <;> first | rfl | exact absurd rfl h
 have e2:(op == CmpOp.NotIn)=false:=by cases op <;> first | rfl | exact absurd rfl h2
 cases b <;> simp [Hw,e1,e2]
theorem wE {op:CmpOp} {r:R2} (ho:OpR X (Hu op) r) (ha:PE X a ta) (hb:PE X b tb) (hm:Hw op b=false):PE X (.Compare a [op] [b] pos) (tOp r ta tb):=by
 intro pins s σ H Q I h
 exact wpAny_Compare1 (DO ha hb I h fun v u s2 x y H2 I2 rx ry q=>ho pins s2 σ H2 x y v u Q I2 rx ry q) hm
def DV (t:TE):TT:=fun σ H Q=>t σ H fun x H'=>∃ k,x=.bl k∧Q k H'
theorem wF {op:CmpOp} {r:R2} (ho:OpR X (Hu op) r) (ha:PE X a ta) (hb:PE X b tb) (hm:Hw op b=false):PT X (.Compare a [op] [b] pos) (DV (tOp r ta tb)):=by
 intro pins s σ H Q I h
 refine wpAny_isTrue_Compare1 (thn (ha pins s σ H _ I h) fun v s1 ⟨x,H1,I1,r1,q1⟩=>thn (hb pins s1 σ H1 _ I1 q1) fun u s2 ⟨y,H2,I2,r2,q2⟩ =>
  thn (ho pins s2 σ H2 x y v u _ I2 r1 r2 q2) fun c s3 ⟨z,H3,I3,r3,k,e,q3⟩=>?_) hm
 subst e
 cases r3
 exact Jl ⟨H3,I3,q3⟩
theorem mO:(sizeLine:Nat) < 2 ^ 63:=by rw [LV]; decide
theorem op_add_str:OpR X (Jd .Add) (fun x y H Q=>∃ i j,x=.str i∧y=.str j∧i.length + j.length≤sizeLine∧Q (.str (i ++ j)) H):=by
 intro pins s σ H x y v u Q I rx ry h
 obtain ⟨i,j,rfl,rfl,hz,q⟩:=h
 obtain ⟨t,rfl⟩:=rx
 obtain ⟨t',rfl⟩:=ry
 exact add_str (fun t' tk=>⟨.str (i ++ j),H,I.tok _,⟨_,rfl⟩,q⟩) hz
theorem cT {x:V} {us:List Value} (r:Vals [x] us):∃ u,us=[u]∧RelV x u:=by
 cases r with
 | cons r1 r2=>cases r2; exact ⟨_,rfl,r1⟩
theorem wG {x y:V} {us:List Value} (r:Vals [x,y] us):∃ u w',us=[u,w']∧RelV x u∧RelV y w':=by
 cases r with
 | cons r1 r2 =>
  cases r2 with
  | cons r3 r4=>cases r4; exact ⟨_,_,rfl,r1,r3⟩
theorem pY (hc:X.calm=true):CallR X (.builtin "max") (fun xs H Q=>∃ i j,xs=[.int i,.int j]∧Q (.int (if j > i then j else i)) H):=by
 intro pins s σ H xs us Q I r h
 obtain ⟨i,j,rfl,q⟩:=h
 obtain ⟨u,w',rfl,⟨t,rfl⟩,⟨t',rfl⟩⟩:=wG r
 refine max_two_ints (I.ok.hd hc) fun h' tk k=>⟨_,H,I.kept k,?_,q⟩
 by_cases hj:j > i
 · rw [if_pos hj,if_pos hj]; exact ⟨_,rfl⟩
 · rw [if_neg hj,if_neg hj]; exact ⟨_,rfl⟩
def GE (K:ck) (x:V) (H:Hp) (n:Nat):Prop :=
 match x with
 | .str y=>y.length≤sizeLine∧n=y.length
 | .byt y=>y.size≤sizeLine∧n=y.size
 | .ref p=>(∃ xs,SqL K H p xs∧n=xs.length)∨∃ xs,SqT K H p xs∧n=xs.length
 | _=>False
theorem tU:CallR X (.builtin "len") (fun xs H Q=>∃ x n,xs=[x]∧GE X.K x H n∧Q (.int n) H):=by
 intro pins s σ H xs us Q I r h
 obtain ⟨x,n,rfl,e,q⟩:=h
 obtain ⟨u,rfl,rx⟩:=cT r
 have hl:=mO
 have hs:sizeLine=16777216:=LV
 cases x with
 | str y =>
  obtain ⟨t,rfl⟩:=rx
  obtain ⟨hy,e'⟩:y.length≤sizeLine∧n=y.length:=e
  subst e'
  exact len_str (by omega) ⟨.int _,H,I.tok _,⟨_,rfl⟩,q⟩
 | byt y =>
  obtain ⟨t,rfl⟩:=rx
  obtain ⟨hy,e'⟩:y.size≤sizeLine∧n=y.size:=e
  subst e'
  exact PySem.W.len_bytes (by omega) ⟨.int _,H,I.tok _,⟨_,rfl⟩,q⟩
 | ref p =>
  cases rx
  have e':(∃ xs,SqL X.K H p xs∧n=xs.length)∨∃ xs,SqT X.K H p xs∧n=xs.length:=e
  rcases e' with ⟨xs,hx,e'⟩ | ⟨xs,hx,e'⟩
  · subst e'
    obtain ⟨its,r',pl,hz⟩:=I.list hx
    have hlen:=r'.length
    exact Calls.call_len_list pl.isList (by simp only [uk]; omega) ⟨.int xs.length,H,I.tok _,⟨_,by simp only [uk]; rw [hlen]⟩,q⟩
  · subst e'
    obtain ⟨its,r',pl,hz⟩:=I.tuple hx
    have hlen:=r'.length
    exact len_tuple pl (by simp only [uk]; omega) ⟨.int xs.length,H,I.tok _,⟨_,by simp only [uk]; rw [hlen]⟩,q⟩
 | _=>exact (show False from e).elim
end
structure ObjM (h:Heap) (x dx C:Addr) (mA:Str→Option Value):Prop where
 obj:h.get? x=some (JD C dx)
 ns:h.Ns1 dx mA
 ne:dx≠x
theorem pZ {h:Heap} {dx:Addr} {mA:Str→Option Value} (n:h.Ns1 dx mA):∃ od,h.get? dx=some od∧∀ name,NF name od=some (mA name):=by
 obtain ⟨o,es,ep,ho,hd,hk,_,hm⟩:=n
 refine ⟨o,ho,fun name=>?_⟩
 have e:=hm name
 unfold nsFind findBy at e
 rw [← Array.find?_toList] at e
 unfold NF
 rw [hd]
 dsimp only
 split
 · rename_i y q
   rw [q] at e
   exact congrArg some e
 · rename_i q
   rw [q] at e
   have a:es.toList.any (·.refKey)=false:=by
    rw [MI]
    intro y hy
    obtain ⟨z,t,hkey⟩:=hk y (JO.mp hy)
    simp [DictEntry.refKey,hkey]
   have a':¬ es.toList.any (·.refKey)=true:=by rw [a]; exact pi
   rw [if_neg a']
   exact congrArg some e
theorem ObjM.look {h:Heap} {x dx C:Addr} {mA:Str→Option Value} (I:ObjM h x dx C mA):∃ od,PySem.W.InstAt h x (JD C dx) C (some od)∧∀ name,NF name od=some (mA name) :=
 let ⟨od,ho,hl⟩:=pZ I.ns
 ⟨od,⟨I.obj,rfl,rfl,ho⟩,hl⟩
section
variable {prog:Program} {w:D_} {A:w_} {E:Value→c_→Prop} {s:c_} {K:ck} {x dx C f:Addr} {mA:Str→Option Value} {name:Str} {v:Value}
end
section
variable {P:Program} {w:D_} {H H':Hp} {h h':Heap} {a C dx:Addr} {fs fs':List (Str×V)}
theorem wH (hok:HOk P w H h) (e:H a=some (.ins C dx fs)):∃ mA,ObjM h a dx C mA∧(∀ f,DC (fs.lookup f) (mA f))∧PySem.Within mA (fs.map (·.1))∧fs.length≤1000∧H dx=some (.own a):=by
 obtain ⟨d,z,ne,ob,mA,n,r,q⟩:=(show ObjOk P w H h a (.ins C dx fs) from hok a _ e)
 exact ⟨mA,⟨ob,n,ne⟩,r,q,z,d⟩
end
structure Cls (K:ck) (C:Addr):Prop where
 pg:OQ K C PK=true
 hd:PySem.W.hasDictIn K C=true
 po:PySem.W.plainOver K C=true
 sa:Lq K (.ref C) "__setattr__"=some (some (.builtin "object.__setattr__"))
theorem Cls.get {K:ck} {C:Addr} (c:Cls K C) (f:Str):OQ K C f=true:=c.pg
structure Con (K:ck) (C:Addr) (f:Str) (v:V) (u:Value):Prop where
 at_:Lq K (.ref C) f=some (some u)
 rel:RelV v u
 get:Ox K u "__get__"=some none
 cp:PySem.W.copiedNames.contains f=false
structure Hi (K:ck) (C:Addr) (m:Str) (f:Addr):Prop where
 at_:Lq K (.ref C) m=some (some (.ref f))
 fn:PP K (.ref f)=true
 kp:IE K (.ref f)=true
section
variable {X:Cx} {pins:List (Addr×Obj)} {σ:St} {H:Hp} {s:c_} {a C dx:Addr} {fs:List (Str×V)} {f:Str} {v:V} {A:w_} {E:Value→c_→Prop}
theorem Inv.made (I:Inv X pins σ H s):Inv X pins σ (upd (upd H s.heap.objs.size (.own (s.heap.objs.size + 1))) (s.heap.objs.size + 1) (.ins C s.heap.objs.size []))
 { s with heap:=(s.heap.push IX).push (JD C s.heap.objs.size) }:=by
 have e1:(s.heap.push IX).get? s.heap.objs.size=some IX:=i_ s.heap rfl
 have e2:((s.heap.push IX).push (JD C s.heap.objs.size)).get? (s.heap.objs.size + 1)=some (JD C s.heap.objs.size):=by
  have:=i_ (s.heap.push IX) (o:=JD C s.heap.objs.size) rfl
  rwa [F_] at this
 have e3:(s.heap.push IX).Ns s.heap.objs.size (fun _=>none):=⟨IX,#[],_,e1,rfl,(fun e he=>absurd he (by simp)),fun _=>rfl⟩
 have I1:=I.laid (a:=s.heap.objs.size) (o:=.own (s.heap.objs.size + 1)) (h':=s.heap.push IX) (t':=s.toks) (fun b u q=>e_ _ q) (n_ _) ⟨_,e1⟩
 refine I1.laid (a:=s.heap.objs.size + 1) (o:=.ins C s.heap.objs.size []) (t':=s.toks) (fun b u q=>e_ _ q) (Lz (F_ _ _)) ?_
 have ne:s.heap.objs.size≠s.heap.objs.size + 1:=t_ (Ij _)
 refine ⟨by rw [al ne,ak],Hq _,ne,e2,fun _=>none,(Heap.Ns1.of_empty e3).at fun o q=>e_ _ q,fun _=>Mg,fun y hy=>absurd rfl hy⟩
end
section
variable {X:Cx} {o e value:Expr} {f:Str} {pos pos' tpos:Pos} {ta tv:TE}
end
section
variable {X:Cx} {pins:List (Addr×Obj)} {σ:St} {H:Hp} {s:c_} {A:w_} {E:Value→c_→Prop} {Q:Value→c_→Prop} {c:Value} {b:Bool}
inductive mP (K:ck) (H:Hp):V→Value→Prop where
 | non:mP K H .non (.type "NoneType")
 | bl (x:Bool):mP K H (.bl x) (.type "bool")
 | int (i:Int):mP K H (.int i) (.type "int")
 | str (x:Str):mP K H (.str x) (.type "str")
 | flt (x:UInt64):mP K H (.flt x) (.type "float")
 | lst {a:Addr} {xs:List V} (e:H a=some (.lst xs)):mP K H (.ref a) (.type "list")
 | frz {a:Addr} {o:Obj} {xs:List V} (e:H a=some (.frz o (.lst xs))):mP K H (.ref a) (.type "list")
 | tup {a:Addr} {xs:List V} (e:H a=some (.tup xs)):mP K H (.ref a) (.type "tuple")
 | dK {a:Addr} {kvs:List (Key×V)} (e:H a=some (.dK kvs)):mP K H (.ref a) (.type "dict")
 | dT {a:Addr} {kvs:List (List Key×V)} (e:H a=some (.dT kvs)):mP K H (.ref a) (.type "dict")
 | ins {a C dx:Addr} {fs:List (Str×V)} (e:H a=some (.ins C dx fs)) (cl:Cls K C) (ha:Lq K (.ref C) "__class__"=some (some (.builtin "object.__class__")))
  (hn:Ox K (.builtin "object.__class__") "__get__"=some (some (.builtin "getset_descriptor.__get__"))) (htk:PySem.W.takesIn K (.builtin "object.__class__")=some true)
  (hm:PySem.W.mroIn K C (.type "object")=some true):mP K H (.ref a) (.ref C)
theorem p0 {x:V} {u t:Value} (I:Inv X pins σ H s) (rx:RelV x u) (ty:mP X.K H x t) (e:J_ X.K t c=some b) (h:∀ tk,Q (.bool b) { s with toks:=tk }) :
 k_ (p_ X.prog X.w) A (call (.builtin "isinstance") [u,c]) Q E s:=by
 cases ty with
 | non=>cases (show u=E_ from rx); exact IA PySem.W.kitx_none I.kIn Mg e (fun z=>nomatch z) h
 | bl y=>cases (show u=Ig y from rx); exact IA PySem.W.kitx_bool I.kIn Mg e (fun z=>nomatch z) h
 | int i=>obtain ⟨t,q⟩:=(show ∃ t,u=OR i t from rx); cases q; exact IA PySem.W.kitx_int I.kIn Mg e (fun z=>nomatch z) h
 | str y=>obtain ⟨t,q⟩:=(show ∃ t,u=IB y t from rx); cases q; exact IA PySem.W.kitx_str I.kIn Mg e (fun z=>nomatch z) h
 | flt y=>obtain ⟨t,q⟩:=(show ∃ t,u=Value.float y t from rx); cases q; exact IA PySem.W.kitx_float I.kIn Mg e (fun z=>nomatch z) h
 | @lst a xs ea =>
  cases (show u=xy a from rx)
  obtain ⟨_,_,n,_,h1⟩:=(show ObjOk X.prog X.w H s.heap a (.lst xs) from I.hok a _ ea)
  exact IA OA I.kIn ⟨_,h1,rfl⟩ e (fun z=>nomatch z) h
 | @frz a ob xs ea =>
  cases (show u=xy a from rx)
  obtain ⟨_,_,_,n,_,h1⟩:=(show ObjOk X.prog X.w H s.heap a (.frz ob (.lst xs)) from I.hok a _ ea)
  exact IA OA I.kIn ⟨_,h1,rfl⟩ e (fun z=>nomatch z) h
 | @tup a xs ea =>
  cases (show u=xy a from rx)
  obtain ⟨_,_,_,p⟩:=(show ObjOk X.prog X.w H s.heap a (.tup xs) from I.hok a _ ea)
  obtain ⟨o,h1,h2,_⟩:=p
  exact IA PySem.W.kitx_tuple I.kIn ⟨o,h1,h2⟩ e (fun z=>nomatch z) h
 | @dK a kvs ea =>
  cases (show u=xy a from rx)
  obtain ⟨_,_,vs,_,p⟩:=(show ObjOk X.prog X.w H s.heap a (.dK kvs) from I.hok a _ ea)
  obtain ⟨o,es,ep,h1,h2,_⟩:=p
  exact IA OB I.kIn ⟨o,h1,h2.1⟩ e (fun z=>nomatch z) h
 | @dT a kvs ea =>
  cases (show u=xy a from rx)
  obtain ⟨_,_,xs,_,o,es,ep,h1,h2,_⟩:=(show ObjOk X.prog X.w H s.heap a (.dT kvs) from I.hok a _ ea)
  exact IA OB I.kIn ⟨o,h1,h2.1⟩ e (fun z=>nomatch z) h
 | @ins a C dx fs ea cl ha hn htk hm =>
  cases (show u=xy a from rx)
  obtain ⟨mA,O,_⟩:=wH I.hok ea
  obtain ⟨od,J,_⟩:=O.look
  exact IA (PySem.W.kitx_own (cl.get _) cl.hd ha hn htk hm) I.kIn J e (fun z=>nomatch z) h
end
structure Room (k:Nat) (A:w_):Prop where
 hd:A.handled=none
 dp:A.depth + 3 * k + 5 < recursionLimit
 un:A.units + 16 * k + 200 < cLine
theorem Room.mono {j k:Nat} {A:w_} (r:Room k A) (h:j≤k):Room j A:=⟨r.hd,by have:=r.dp; omega,by have:=r.un; omega⟩
theorem Room.deeper {k:Nat} {A:w_} (r:Room (k + 1) A) (env:Env):Room k (A.deeper env) :=
 ⟨r.hd,by have:=r.dp; show A.depth + 1 + 3 * k + 5 < _; omega,by have:=r.un; show A.units + 3 + 16 * k + 200 < _; omega⟩
theorem Room.in1 {k:Nat} {A:w_} (r:Room (k + 1) A):Room k A.in1 :=
 ⟨r.hd,by have:=r.dp; show A.depth + 3 * k + 5 < _; omega,by have:=r.un; show A.units + 1 + 16 * k + 200 < _; omega⟩
theorem Room.depth {k:Nat} {A:w_} (r:Room k A):A.depth < recursionLimit:=by have:=r.dp; omega
theorem Room.units {k:Nat} {A:w_} (r:Room k A):A.units + 64 < cLine:=by have:=r.un; omega
theorem Room.units0 {k:Nat} {A:w_} (r:Room k A):A.units < cLine:=by have:=r.un; omega
def GF:TA:=fun _ H Q=>Q [] H
def DW (ta:TE) (tr:TA):TA:=fun σ H Q=>ta σ H fun x H1=>tr σ H1 fun xs H2=>Q (x :: xs) H2
section
variable {X:Cx} {e:Expr} {es:List Expr} {te:TE} {t:TA} {pos:Pos}
theorem mQ:PA X [] GF:=fun _ _ _ _ H Q I h=>Lv ⟨[],H,I,.nil,h⟩
theorem ez (ha:PE X e te) (hr:PA X es t) (hs:f_ (e :: es) X.env=(false,eval e X.env) :: f_ es X.env:=by rfl):PA X (e :: es) (DW te t):=by
 intro pos pins s σ H Q I h
 rw [hs]
 show k_ _ _ (Pk ((false,eval e X.env) :: Ho pos (f_ es X.env))) _ _ s
 refine Mr (thn (ha pins s σ H _ I h) fun u s1 ⟨x,H1,I1,r1,q1⟩=>?_)
 exact thn (hr pos pins s1 σ H1 _ I1 q1) fun us s2 ⟨xs,H2,I2,r2,q2⟩=>⟨x :: xs,H2,I2,.cons r1 r2,q2⟩
def GG (t:TA):TE:=fun σ H Q=>t σ H fun xs H1=>xs.length≤sizeLine∧∀ p,H1 p=none→Q (.ref p) (upd H1 p (.tup xs))
def GH (t:TA):TE:=fun σ H Q=>t σ H fun xs H1=>xs.length≤sizeLine∧∀ p,H1 p=none→Q (.ref p) (upd H1 p (.lst xs))
theorem zP {x1} (h:PA X es t):PE X (.Tuple es x1 pos) (GG t):=by
 intro pins s σ H Q I hq
 refine wpAny_Tuple_spliced (thn (h pos pins s σ H _ I hq) fun us s1 ⟨xs,H1,I1,r,z,q⟩=>⟨by rw [← r.length]; exact z,?_⟩)
 have hf:H1 s1.heap.objs.size=none:=I1.hok.fresh (n_ _)
 refine ⟨.ref s1.heap.objs.size,upd H1 s1.heap.objs.size (.tup xs),I1.laid (t':=s1.toks) (fun b u e=>e_ _ e) (n_ _) ?_,rfl,q _ hf⟩
 exact ⟨z,us,r,⟨_,i_ _ rfl,rfl,_,rfl⟩⟩
theorem p8 (h:PA X es t):PE X (.List es pos) (GH t):=by
 intro pins s σ H Q I hq
 refine wpAny_List_spliced (thn (h pos pins s σ H _ I hq) fun us s1 ⟨xs,H1,I1,r,z,q⟩=>⟨by rw [← r.length]; exact z,?_⟩)
 have hf:H1 s1.heap.objs.size=none:=I1.hok.fresh (n_ _)
 refine ⟨.ref s1.heap.objs.size,upd H1 s1.heap.objs.size (.lst xs),I1.laid (t':=s1.toks) (fun b u e=>e_ _ e) (n_ _) ?_,rfl,q _ hf⟩
 exact ⟨z,us,0,r,i_ _ rfl⟩
end
abbrev Sp:=List V→Hp→VK→XK→Prop
abbrev CXT:=List Env→Hp→c_→XK→Value→c_→Prop
structure Env0 (P:Program) (w:D_) (K:ck) (mg:Str→Option Value) (base:Heap) (A:w_) (outer:List Env) (s:c_) (H:Hp):Prop where
 frames:A.frames=some outer
 mod:Mod K mg base
 bs:∀ b o,base.get? b=some o→s.heap.get? b=some o∧H b=none
 bsz:base.objs.size≤s.heap.objs.size
 funs:s.heap.FunFrames base outer
 frf:∀ b∈frs outer,H b=none
 hok:HOk P w H s.heap
 bare:Me s.gens
def CE (outer:List Env) (P:Program) (w:D_) (H:Hp) (s:c_) (Q:VK) (u:Value) (s':c_):Prop :=
 ∃ v H',s'.os=s.os∧Me s'.gens∧Un (frs outer) [] H H' s.heap s'.heap∧HOk P w H' s'.heap∧RelV v u∧Q v H'
def CR (CX:CXT) (outer:List Env) (P:Program) (w:D_) (H:Hp) (s:c_) (Q:VK) (E:XK) (r:Ng) (s':c_):Prop :=
 match r with
 | .ok (.ret u)=>CE outer P w H s Q u s'
 | .ok _=>False
 | .error e=>CX outer H s E e s'
structure FnOk (P:Program) (w:D_) (K:ck) (mg:Str→Option Value) (base:Heap) (CX:CXT) (k:Nat) (f:Addr) (fd:Iu) (ps:List Str) (sp:Sp):Prop where
 len:∀ vs H Q E,sp vs H Q E→vs.length=ps.length
 run:∀ (A:w_) (outer:List Env) (s:c_) (H:Hp) (args:Args) (us:List Value) (vs:List V) (Q:VK) (E:XK),Room k A→Env0 P w K mg base A outer s H→MG s fd args (ps.zip us)→Vals vs us→sp vs H Q E →
  Ki (p_ P w) A (.call (.ref f) args) (CR CX outer P w H s Q E) s
theorem FnOk.mono {P:Program} {w:D_} {K:ck} {mg:Str→Option Value} {base:Heap} {CX:CXT} {j k:Nat} {f:Addr} {fd:Iu} {ps:List Str} {sp:Sp} (F:FnOk P w K mg base CX j f fd ps sp) (h:j≤k) :
 FnOk P w K mg base CX k f fd ps sp:=⟨F.len,fun A outer s H args us vs Q E hr=>F.run A outer s H args us vs Q E (hr.mono h)⟩
theorem FnOk.imp {P:Program} {w:D_} {K:ck} {mg:Str→Option Value} {base:Heap} {CX:CXT} {k:Nat} {f:Addr} {fd:Iu} {ps:List Str} {sp sp':Sp} (F:FnOk P w K mg base CX k f fd ps sp)
 (h:∀ vs H Q E,sp' vs H Q E→sp vs H Q E):FnOk P w K mg base CX k f fd ps sp' :=
 ⟨fun vs H Q E q=>F.len vs H Q E (h _ _ _ _ q),fun A outer s H args us vs Q E hr he hb hv hs=>F.run A outer s H args us vs Q E hr he hb hv (h _ _ _ _ hs)⟩
theorem Env0.in1 {P:Program} {w:D_} {K:ck} {mg:Str→Option Value} {base:Heap} {A:w_} {outer:List Env} {s:c_} {H:Hp} (e:Env0 P w K mg base A outer s H) :
 Env0 P w K mg base A.in1 outer s H:=⟨e.frames,e.mod,e.bs,e.bsz,e.funs,e.frf,e.hok,e.bare⟩
section
variable {X:Cx} {pins:List (Addr×Obj)} {σ:St} {H:Hp} {s s':c_}
theorem Inv.env0 (I:Inv X pins σ H s):Env0 X.prog X.w X.K X.mg X.base X.A X.stack s H :=
 ⟨I.ok.frames,I.ok.mod,I.bs,Hm I.ok.bsz I.sz,I.stack,I.stkFree,I.hok,I.bare⟩
theorem Inv.after {Q:VK} {u:Value} (I:Inv X pins σ H s) (h:CE X.stack X.prog X.w H s Q u s'):EP X pins σ Q u s':=by
 obtain ⟨v,H',os,bare,un,hok,r,q⟩:=h
 obtain ⟨hh,g,d,t,os'⟩:=s'
 obtain rfl:os'=s.os:=os
 exact ⟨v,H',I.call (h':=hh) (g':=g) (d':=d) (t':=t) (ch:=[]) un hok bare (fun b z=>absurd z (by simp)),r,q⟩
end
def DX (sp:Sp) (dvs:List V) (E:XK) (t:TA):TE:=fun σ H Q=>t σ H fun vs H1=>sp (vs ++ dvs) H1 Q E
def Binds (K:ck) (fd:Iu) (ps:List Str) (ds:List Value):Prop :=
 ∀ (s:c_) (us:List Value),K.In s.heap→(us ++ ds).length=ps.length→MG s fd ⟨us,[]⟩ (ps.zip (us ++ ds))
theorem Binds.all {K:ck} {fd:Iu} {ps:List Str} (h:∀ us:List Value,us.length=ps.length→bindArgs fd ⟨us,[]⟩=pure (ps.zip us)):Binds K fd ps []:=fun s us _ hl=>by
 rw [JF] at hl ⊢
 exact .of_eq (h us hl)
def mR (CX:CXT) (X:Cx) (E:XK):Prop:=∀ (pins:List (Addr×Obj)) (σ:St) (H:Hp) (s:c_) (e:Value) (s':c_),Inv X pins σ H s→CX X.stack H s E e s'→X.xe e s'
section
variable {X:Cx} {CX:CXT} {k:Nat} {f C:Addr} {fd:Iu} {ps:List Str} {sp:Sp} {dvs:List V} {ds:List Value} {E:XK} {x m:Str} {p pos apos:Pos} {e o:Expr} {es:List Expr} {ta:TE} {t:TA}
theorem zQ {pins:List (Addr×Obj)} {σ:St} {H:Hp} {s:c_} {Q:VK} {us:List Value} {vs:List V} (F:FnOk X.prog X.w X.K X.mg X.base CX k f fd ps sp) (hr:Room k X.A) (hb:Binds X.K fd ps ds) (hd:Vals dvs ds) (hx:mR CX X E)
 (I:Inv X pins σ H s) (r:Vals vs us) (h:sp (vs ++ dvs) H Q E):k_ (p_ X.prog X.w) X.A (call (.ref f) us) (EP X pins σ Q) X.xe s:=by
 have r2:Vals (vs ++ dvs) (us ++ ds):=r.append hd
 have hl:(us ++ ds).length=ps.length:=by rw [← r2.length]; exact F.len _ _ _ _ h
 refine Lb (Jh (F.run X.A X.stack s H ⟨us,[]⟩ (us ++ ds) (vs ++ dvs) Q E hr I.env0 (hb s us I.kIn hl) r2 h) fun r s' hq=>?_)
 cases r with
 | error e=>exact hx pins σ H s e s' I hq
 | ok fl =>
  cases fl with
  | ret u=>exact I.after hq
  | next=>exact Ht hq
  | brk=>exact Ht hq
  | cont=>exact Ht hq
theorem p9 (F:FnOk X.prog X.w X.K X.mg X.base CX k f fd ps sp) (hr:Room k X.A) (hg:Gl X x) (hm:X.mg x=some (.ref f)) (hk:IE X.K (.ref f)=true) (hb:Binds X.K fd ps ds) (hd:Vals dvs ds) (hx:mR CX X E)
 (ha:PA X (e :: es) t) (hdb:(x == ("__debug__":Str))=false:=by decide) (he:f_ (e :: es) X.env=(false,eval e X.env) :: f_ es X.env:=by rfl) (hpl:(Ho pos (f_ es X.env)).any (·.1)=false:=by rfl) :
 PE X (.Call (.Name x p) (e :: es) [] pos) (DX sp dvs E t):=by
 intro pins s σ H Q I h
 refine Ix (fN I hg hm ?_ hdb)
 refine Og (h₀:=X.base) I.ok.mod.kin hk (thn (ha pos pins s σ H _ I h) fun us s1 ⟨vs,H1,I1,r,q⟩=>⟨I1.kIn,?_⟩) he hpl
 exact zQ F hr hb hd hx I1 r q
structure Mk (K:ck) (C f:Addr):Prop where
 makes:PySem.W.makesIn K C=true
 init:Lq K (.ref C) "__init__"=some (some (.ref f))
 fn:PP K (.ref f)=true
 kp:IE K (.ref C)=true
end
section
variable {X:Cx} {CX:CXT} {k:Nat} {f C:Addr} {fd:Iu} {ps ks:List Str} {sp:Sp} {E:XK} {x m:Str} {p pos apos kpos:Pos} {e o:Expr} {es:List Expr} {kws:List Jc} {te ta:TE} {t tk:TA} {nm:Option Str}
structure FZ (K:ck) (fd:Iu) (ps ks:List Str) (g:List Value→List Value→List Value) (gV:List V→List V→List V):Prop where
 to:∀ (s:c_) (us ws:List Value),K.In s.heap→(g us ws).length=ps.length→MG s fd ⟨us,ks.zip ws⟩ (ps.zip (g us ws))
 rel:∀ {vs:List V} {us:List Value} {zs:List V} {ws:List Value},Vals vs us→Vals zs ws→Vals (gV vs zs) (g us ws)
variable {g:List Value→List Value→List Value} {gV:List V→List V→List V}
end
structure dz (N P:List Str) (sc:Scope):Prop where
 kind:sc.kind=.function
 co:sc.isCoroutine=false
 gen:sc.isGenerator=false
 nd:N.Nodup
 pre:N.take P.length=P
 par:∀ x∈P,sc.names.lookup x=some .local∨sc.names.lookup x=some .cell
 nofree:∀ y∈sc.names,y.2≠.free
theorem j6 {kindOf:Str→Option Kb} {x:Str}:∀ {binds:List (Str×Value)} {m:Str→Option Value},(∀ v,(x,v) ∉ binds)→Ps kindOf binds m x=m x
 | [],_,_=>rfl
 | (n,v) :: r,m,h=>by
  unfold Ps
  rw [j6 fun w hw=>h w (l_ _ hw)]
  split
  · have:x≠n:=by rintro rfl; exact h v g_
    simp [this]
  · rfl
theorem j7 {kindOf:Str→Option Kb} {x:Str}:∀ {binds:List (Str×Value)} {m:Str→Option Value},(∀ v,(x,v) ∉ binds)→Pt kindOf binds m x=m x
 | [],_,_=>rfl
 | (n,v) :: r,m,h=>by
  unfold Pt
  rw [j7 fun w hw=>h w (l_ _ hw)]
  split
  · rfl
  · have:x≠n:=by rintro rfl; exact h v g_
    simp [this]
theorem j8 {kindOf:Str→Option Kb} {x:Str} {v:Value}:∀ {P:List Str} {vs:List Value} {i:Nat} {m:Str→Option Value},P.Nodup→P[i]?=some x→vs[i]?=some v→kindOf x=some .local →
 Ps kindOf (P.zip vs) m x=some v
 | [],_,_,_,_,h,_,_=>by simp at h
 | _ :: _,[],_,_,_,_,h,_=>by simp at h
 | p :: P,w :: vs,0,m,nd,h1,h2,hk=>by
  simp at h1 h2; subst h1; subst h2
  show Ps kindOf ((p,w) :: P.zip vs) m p=_
  unfold Ps
  rw [j6 fun v hv=>(Kt.mp nd).1 (L8 hv).1,if_pos hk]
  simp
 | p :: P,w :: vs,i + 1,m,nd,h1,h2,hk=>by
  show Ps kindOf ((p,w) :: P.zip vs) m x=_
  unfold Ps
  exact j8 (i:=i) (Kt.mp nd).2 (by simpa using h1) (by simpa using h2) hk
theorem j9 {kindOf:Str→Option Kb} {x:Str} {v:Value}:∀ {P:List Str} {vs:List Value} {i:Nat} {m:Str→Option Value},P.Nodup→P[i]?=some x→vs[i]?=some v→kindOf x≠some .local →
 Pt kindOf (P.zip vs) m x=some v
 | [],_,_,_,_,h,_,_=>by simp at h
 | _ :: _,[],_,_,_,_,h,_=>by simp at h
 | p :: P,w :: vs,0,m,nd,h1,h2,hk=>by
  simp at h1 h2; subst h1; subst h2
  show Pt kindOf ((p,w) :: P.zip vs) m p=_
  unfold Pt
  rw [j7 fun v hv=>(Kt.mp nd).1 (L8 hv).1,if_neg hk]
  simp
 | p :: P,w :: vs,i + 1,m,nd,h1,h2,hk=>by
  show Pt kindOf ((p,w) :: P.zip vs) m x=_
  unfold Pt
  exact j9 (i:=i) (Kt.mp nd).2 (by simpa using h1) (by simpa using h2) hk
def start (N:List Str) (vs:List V):St:=vs.map some ++ q_ (N.length - vs.length) none
def mS (CX:CXT) (P:Program) (w:D_) (K:ck) (mg:Str→Option Value) (base:Heap) (N:List Str) (qual:Str) (scope:Scope) (f:Addr) (cd:Value) (A:w_) (outer:List Env) (s:c_) (H:Hp) (E:XK):Cx where
 prog:=P
 w:=w
 K:=K
 mg:=mg
 base:=base
 A:=A.deeper (Ld qual scope s.heap.objs.size f cd)
 N:=N
 s₀:=s
 H₀:=H
 env:=Ld qual scope s.heap.objs.size f cd
 outer:=outer
 stack:=Ld qual scope s.heap.objs.size f cd :: outer
 ex:=[]
 calm:=true
 fn:=fun _=>true
 pn:=[]
 xe:=fun e s'=>k_ (p_ P w) (A.deeper (Ld qual scope s.heap.objs.size f cd)) (leaving (Ld qual scope s.heap.objs.size f cd) e) (fun _ s''=>CX outer H s E e s'') (fun e' s''=>CX outer H s E e' s'') s'
theorem mT {sc:Scope} {n:Nat} {x:Str} (h:sc.names.lookup x=some .cell):∃ c,(HK n sc.names []).lookup x=some c:=by
 have q:=Lr sc.names n [] (.inl h)
 exact JV.mp q
theorem ka {CX:CXT} {P:Program} {w:D_} {K:ck} {mg:Str→Option Value} {base:Heap} {N ps:List Str} {qual:Str} {scope:Scope} {f:Addr} {cd:Value} {A:w_} {outer:List Env} {s s1:c_} {H:Hp} {E:XK} {us:List Value} {vs:List V}
 (S:dz N ps scope) (hd:A.handled=none) (e0:Env0 P w K mg base A outer s H) (hl:vs.length=ps.length) (r:Vals vs us)
 (x:InCallC s s.heap.objs.size (Ps (Ld qual scope s.heap.objs.size f cd).kindOf (ps.zip us) fun _=>none) (HK (s.heap.objs.size + 1) scope.names []) (Pt (Ld qual scope s.heap.objs.size f cd).kindOf (ps.zip us) fun _=>none) s1) :
 Inv (mS CX P w K mg base N qual scope f cd A outer s H E) [] (start N vs) H s1:=by
 have hpl:ps.length≤N.length:=by have:=congrArg Pe S.pre; rw [M7] at this; omega
 obtain ⟨h1,tk,rfl,hk⟩:=x.done
 have noA:∀ b:Addr,b ∉ (mS CX P w K mg base N qual scope f cd A outer s H E).ex:=fun b z=>absurd (show b∈([]:List Addr) from z) (by simp)
 refine ⟨⟨e0.mod,S.kind,rfl,rfl,n_ _,fun y z c h1 h2=>?_,fun y hy=>?_,fun y c _ h=>?_,fun _=>hd,NM e0.frames,.inr ⟨rfl,rfl⟩,fun b z=>absurd z (noA b),e0.bs,e0.bsz,fun b _ _=>noA b,fun b z=>absurd z (noA b),e0.funs,e0.frf⟩,
  rfl,e0.bare,Un.kept hk,⟨_,x.toInCall.ns,fun i y v h1 h2 h3=>?_⟩,fun y c h=>⟨_,x.cell y c h⟩,e0.hok.fresh (n_ _),fun y c h=>?_,fun p hp=>absurd (show p∈([]:List (Addr×Obj)) from hp) (by simp),e0.hok.kept hk,?_⟩
 · exact name_of_addr x.apart (JY h1) (JY h2)
 · have hy:scope.names.lookup y=some .cell∨scope.names.lookup y=some .free:=hy
   rcases hy with hy | hy
   · exact mT hy
   · exact absurd rfl (S.nofree _ (JY hy))
 · exact Jj (x.above y c (JY h))
 · have hi:i < vs.length:=by
    unfold start at h2
    by_cases hi:i < vs.length
    · exact hi
    · rw [I_ (by simpa using hi)] at h2
      rw [Kf] at h2
      split at h2 <;> cases h2
   have ha:vs[i]?=some v:=by
    unfold start at h2
    rw [JB (by simpa using hi),Hz] at h2
    cases e:vs[i]? with
    | none=>rw [e] at h2; cases h2
    | some a=>rw [e] at h2; cases h2; rfl
   obtain ⟨u,hu,rv⟩:=r.get ha
   have hp:ps[i]?=some y:=by
    rw [← S.pre,List.getElem?_take_of_lt (by omega)]; exact h1
   have ndP:ps.Nodup:=by rw [← S.pre]; exact S.nd.sublist (List.take_sublist _ _)
   refine ⟨u,rv,?_⟩
   rcases S.par y (Jk hp) with k | k
   · exact .inl ⟨k,j8 ndP hp hu k⟩
   · obtain ⟨c,e⟩:=mT (n:=s.heap.objs.size + 1) k
     refine .inr ⟨.inl k,c,e,?_⟩
     have q:=x.cell y c e
     rw [j9 ndP hp hu (by show scope.names.lookup y≠_; rw [k]; decide)] at q
     exact q
 · exact e0.hok.fresh (Jj (x.above y c (JY h)))
 · unfold start
   show _=N.length
   rw [II,HF,Jy]
   omega
theorem zR {CX:CXT} {P:Program} {w:D_} {K:ck} {mg:Str→Option Value} {base:Heap} {k:Nat} {f:Addr} {name qual:Str} {params:Arguments} {body:List Stmt} {scope:Scope} {dV kV doc pm cdv ct oc:Value} {an od:Option Addr}
 {osl:Array (Option Value)} {N ps:List Str} {sp:Sp} (lk:K.lookup f=some ⟨oc,od,.func (Kk name qual params body scope dV kV doc pm an cdv ct),osl⟩) (hcd:Mm K cdv qual=true) (S:dz N ps scope)
 (len:∀ vs H Q E,sp vs H Q E→vs.length=ps.length)
 (hbody:∀ (A:w_) (outer:List Env) (s:c_) (H:Hp) (vs:List V) (Q:VK) (E:XK),Room k (A.deeper (Ld qual scope s.heap.objs.size f cdv))→sp vs H Q E →
   ∃ t,PSs (mS CX P w K mg base N qual scope f cdv A outer s H E) body t∧t { nx:=fun _ H'=>Q .non H',rt:=Q } (start N vs) H) :
 FnOk P w K mg base CX (k + 1) f (Kk name qual params body scope dV kV doc pm an cdv ct) ps sp:=by
 refine ⟨len,fun A outer s H args us vs Q E hr e0 hb r hsp=>?_⟩
 have hl:=len _ _ _ _ hsp
 have KX:K.In s.heap:=e0.mod.kin.keeps fun b o e=>(e0.bs b o e).1
 have lim:s.heap.NoLimit:=e0.mod.nolimit.keeps fun b o e=>(e0.bs b o e).1
 have hkind:∀ y∈ps.zip us,scope.names.lookup y.1=some .local∨(scope.names.lookup y.1=some .cell∧((HK (s.heap.objs.size + 1) scope.names []).lookup y.1).isSome=true):=fun ⟨n,v⟩ hy=>by
  rcases S.par n (L8 hy).1 with q | q
  · exact .inl q
  · exact .inr ⟨q,Lr _ _ _ (.inl q)⟩
 refine Nu hr.depth (KX _ _ lk) rfl S.co S.gen rfl (Of KX hcd) (hb _ _ _ _ ?_)
 refine Mh S.kind hkind fun env he s1 x=>?_
 subst he
 refine ⟨lim.keeps x.toInCall.keep,codeAny_func ?_⟩
 obtain ⟨t,ht,hq⟩:=hbody A outer s H vs Q E (hr.deeper _) hsp
 have I:Inv (mS CX P w K mg base N qual scope f cdv A outer s H E) [] (start N vs) H s1:=ka S hr.hd e0 hl r x
 refine HI (ht [] s1 (start N vs) H _ I hq) (fun fl s' hs=>?_) fun e s' hs=>hs
 have fin:∀ {σ':St} {H':Hp} {v:V} {u:Value},Inv (mS CX P w K mg base N qual scope f cdv A outer s H E) [] σ' H' s'→RelV v u→Q v H'→CE outer P w H s Q u s' :=
  fun {σ' H' v u} J rv q=>⟨v,H',J.os,J.bare,J.base,J.hok,rv,q⟩
 cases fl with
 | ret u =>
  obtain ⟨v,σ',H',J,rv,q⟩:=hs
  exact fin J rv q
 | next =>
  obtain ⟨σ',H',J,q⟩:=hs
  exact fin (v:=V.non) (u:=E_) J rfl q
 | brk =>
  obtain ⟨_,_,_,q⟩:=hs
  exact Ht q
 | cont =>
  obtain ⟨_,_,_,q⟩:=hs
  exact Ht q
section
variable {X:Cx} {x:Str} {p pos:Pos} {e:Expr} {es:List Expr} {t:TA} {id T:String} {r:List V→Hp→VK→Prop}
def tCB (r:List V→Hp→VK→Prop) (t:TA):TE:=fun σ H Q=>t σ H fun vs H1=>r vs H1 Q
theorem dM (hc:CallR X (.builtin id) r) (hg:Gl X x) (hm:X.mg x=none) (hv:Iq x=some (.builtin id)) (ha:PA X (e :: es) t) (hn:x≠"__name__":=by decide) (hdb:(x == ("__debug__":Str))=false:=by decide)
 (he:f_ (e :: es) X.env=(false,eval e X.env) :: f_ es X.env:=by rfl) (hpl:(Ho pos (f_ es X.env)).any (·.1)=false:=by rfl):PE X (.Call (.Name x p) (e :: es) [] pos) (tCB r t):=by
 intro pins s σ H Q I h
 refine Ix (dh I hg hm hv ?_ hn hdb)
 exact Kc (thn (ha pos pins s σ H _ I h) fun us s1 ⟨vs,H1,I1,r1,q1⟩=>hc pins s1 σ H1 vs us Q I1 r1 q1) he hpl
theorem gO (hc:CallR X (.type T) r) (hg:Gl X x) (hm:X.mg x=none) (hv:Iq x=some (.type T)) (ha:PA X (e :: es) t) (hn:x≠"__name__":=by decide) (hdb:(x == ("__debug__":Str))=false:=by decide)
 (he:f_ (e :: es) X.env=(false,eval e X.env) :: f_ es X.env:=by rfl) (hpl:(Ho pos (f_ es X.env)).any (·.1)=false:=by rfl):PE X (.Call (.Name x p) (e :: es) [] pos) (tCB r t):=by
 intro pins s σ H Q I h
 refine Ix (dh I hg hm hv ?_ hn hdb)
 exact H_ (thn (ha pos pins s σ H _ I h) fun us s1 ⟨vs,H1,I1,r1,q1⟩=>hc pins s1 σ H1 vs us Q I1 r1 q1) he hpl
end
end L2
namespace HT
open PySem PyProof.Rows
section
open PySem.SeqAt
open PySem.AutoSeq1 (wpAny_loadPart')
open PySem.MeetsSeq PySem.MeetsSeq2 PySem.MeetsSeq3
end
section
variable {prog:Program} {w:D_} {A:w_} {E:Value→c_→Prop} {s:c_}
theorem cat_tup {t b:Addr} {vs ws:List Value} {Q:Value→c_→Prop} (ht:Py s.heap t vs.toArray) (hb:Py s.heap b ws.toArray) (hv:vs≠[])
 (h1:ws=[]→Q (.ref t) s) (h2:ws≠[]→Q (.ref s.heap.objs.size) { s with heap:=s.heap.push { cls:=.type "tuple",data:=.seq (vs ++ ws).toArray } })
 (hsz:vs.length + ws.length≤sizeLine):k_ (p_ prog w) A (Jd .Add (.ref t) (.ref b)) Q E s:=by
 obtain ⟨⟨cls,dd,data,sl⟩,ho,hc,n,hd⟩:=id ht
 obtain ⟨⟨cls2,dd2,data2,sl2⟩,ho2,hc2,n2,hd2⟩:=id hb
 simp only at hc hd hc2 hd2
 subst hc hd hc2 hd2
 have e:vs.toArray ++ ws.toArray=(vs ++ ws).toArray:=by simp
 by_cases hw:ws=[]
 · exact Ov ⟨_,ho,rfl⟩ ⟨_,ho2,rfl⟩ MT N5 Lu Lj (K4 _ _)
    (tuple_addW1 t b vs.toArray ws.toArray n n2 dd dd2 sl sl2 (by simpa using hv) (by simp [hw])) ⟨ho,ho2,h1 hw⟩
 · refine Ov ⟨_,ho,rfl⟩ ⟨_,ho2,rfl⟩ MT N5 Lu Lj (K4 _ _)
    (tuple_addW2 t b vs.toArray ws.toArray n n2 dd dd2 sl sl2 (by simpa using hv) (by simpa using hw) (by rw [uk,uk]; exact hsz)) ⟨ho,ho2,?_⟩
   rw [e]
   exact h2 hw
def sIx (n d:Nat):Option Int→Nat
 | none=>d
 | some v=>if v < 0 then (v + (n:Int)).toNat else min v.toNat n
theorem zS (n d:Nat) (hd:d≤n) (o:Option Int):sIx n d o≤n:=by
 cases o with
 | none=>exact hd
 | some v =>
  show (if v < 0 then (v + (n:Int)).toNat else min v.toNat n)≤n
  by_cases hv:v < 0
  · rw [if_pos hv]; omega
  · rw [if_neg hv]; exact O1 _ _
theorem qa (v:Int) (n d:Nat):(if v < 0 then max (v + (n:Int)) 0 else min v (n:Int))=((sIx n d (some v):Nat):Int):=by
 show (if v < 0 then max (v + (n:Int)) 0 else min v (n:Int))=(((if v < 0 then (v + (n:Int)).toNat else min v.toNat n):Nat):Int)
 by_cases hv:v < 0
 · simp only [if_pos hv]; omega
 · simp only [if_neg hv]; omega
theorem oK (lo hi:Option Int) (n:Nat):KU lo hi 1 (n:Int)=(((sIx n 0 lo:Nat):Int),((sIx n n hi:Nat):Int)):=by
 have h1:¬ ((1:Int) < 0):=by omega
 unfold KU
 simp only [h1,if_false]
 refine Prod.ext ?_ ?_
 · cases lo with
   | none=>rfl
   | some v=>exact qa v n 0
 · cases hi with
   | none=>rfl
   | some v=>exact qa v n n
theorem oM (i j:Nat):JA (i:Int) (j:Int) 1=j - i:=by
 unfold JA
 have h1:(1:Int) > 0:=by omega
 simp only [h1,if_true,Int.ediv_one]
 split <;> omega
theorem iJ {v:Value} {o:Option Int} {Q:Option Int→c_→Prop} (p:Nh v o) (h:Q o s):k_ (p_ prog w) A (Builtin.Slice.slicePartIndex v) Q E s:=by
 cases p with
 | none=>exact slicePart_none h
 | int i t=>exact slicePart_int h
theorem sliceApplied_gen {sl:Addr} {vl vu:Value} {lo hi:Option Int} {n:Nat} {Q:Int×Int×Nat→c_→Prop} (hs:s.heap.IsSliceOf sl vl vu .none) (pl:Nh vl lo) (pu:Nh vu hi)
 (h:Q (((sIx n 0 lo:Nat):Int),1,sIx n n hi - sIx n 0 lo) s):k_ (p_ prog w) A (Mu (.ref sl) (pure (n:Int))) Q E s:=by
 obtain ⟨os,hos,hcs,hds⟩:=id hs
 unfold Mu Builtin.Slice.sliceFields
 refine b_ (b_ (IL hos hds (x:=vl) rfl (b_ (IL hos hds (x:=vu) rfl (b_ (IL hos hds (x:=.none) rfl (d_ ?_)))))))
 refine b_ (slicePart_none ?_)
 show k_ _ _ (if ((1:Int) == 0)=true then _ else _) _ _ s
 rw [if_neg (by decide)]
 refine b_ (iJ pl (b_ (iJ pu (b_ (d_ ?_)))))
 show k_ _ _ (match KU lo hi 1 (n:Int) with | (lo,hi)=>pure (lo,(1:Int),JA lo hi 1)) _ _ s
 rw [oK lo hi n]
 show k_ _ _ (pure (((sIx n 0 lo:Nat):Int),(1:Int),JA ((sIx n 0 lo:Nat):Int) ((sIx n n hi:Nat):Int) 1)) _ _ s
 rw [oM]
 exact d_ h
theorem tV (xs:Array Value) (i k:Nat):((h_ k).filterMap fun (m:Nat)=>xs[((i:Int) + (m:Int) * 1).toNat]?).toArray=((xs.toList.drop i).take k).toArray:=by
 have e:(fun (m:Nat)=>xs[((i:Int) + (m:Int) * 1).toNat]?)=fun m=>xs[i + m]?:=by
  funext m
  have:((i:Int) + (m:Int) * 1).toNat=i + m:=by omega
  rw [this]
 rw [e]
 have:=pick_run xs i k
 rw [Mz] at this
 have e2:((fun x=>xs[x]?) ∘ fun x=>i + x)=fun m=>xs[i + m]?:=rfl
 rw [e2] at this
 rw [this]
theorem getItem_tuple_cut {t sl:Addr} {items:Array Value} {vl vu:Value} {lo hi:Option Int} {Q:Value→c_→Prop} (ht:Py s.heap t items) (hs:s.heap.IsSliceOf sl vl vu .none) (pl:Nh vl lo) (pu:Nh vu hi)
 (hw:¬ (sIx items.size 0 lo=0∧sIx items.size items.size hi=items.size))
 (h:Q (.ref s.heap.objs.size) { s with heap:=s.heap.push { cls:=.type "tuple",data:=.seq ((items.toList.drop (sIx items.size 0 lo)).take (sIx items.size items.size hi - sIx items.size 0 lo)).toArray } })
 (hsz:items.size≤sizeLine):k_ (p_ prog w) A (Nd (.ref t) (.ref sl)) Q E s:=by
 have htake:sizeOk (.seq ((items.toList.drop (sIx items.size 0 lo)).take (sIx items.size items.size hi - sIx items.size 0 lo)).toArray):=by
  show ((items.toList.drop (sIx items.size 0 lo)).take (sIx items.size items.size hi - sIx items.size 0 lo)).toArray.size≤sizeLine
  rw [uk,M7,O3,Ib]
  omega
 have hj:sIx items.size items.size hi≤items.size:=zS _ _ (n_ _) hi
 obtain ⟨os,hos,hcs,hds⟩:=id hs
 have hTs:s.TypeIs (.ref sl) "slice":=⟨os,hos,hcs⟩
 unfold Nd
 try with_reducible refine HX ?_
 first | refine b_ (d_ ?_) | skip
 refine b_ (wpAny_sequenceKey ht.typeIs (by decide) ?_)
 refine b_ (HJ (name:=a_ "__getitem__") ht.typeIs Ia
  (HS Ia ht.typeIs entry_tuple_getitem ?_ (args_tuple_getitem _ _)))
 show k_ _ _ (Mt (.ref t) >>= _) _ _ s
 refine b_ (tupleItemsOf_ ht ?_)
 refine b_ (JH hTs ?_)
 rw [if_pos (by decide)]
 refine b_ (sliceApplied_gen hs pl pu ?_)
 have hno:¬ ((((sIx items.size 0 lo:Nat):Int) == 0 && (1:Int) == 1 && (sIx items.size items.size hi - sIx items.size 0 lo) == items.size)=true):=by
  intro q
  rw [j_,j_] at q
  have q1:((sIx items.size 0 lo:Nat):Int)=0:=NX q.1.1
  have q2:sIx items.size items.size hi - sIx items.size 0 lo=items.size:=NX q.2
  exact hw ⟨by omega,by omega⟩
 show k_ _ _ (if (((sIx items.size 0 lo:Nat):Int) == 0 && (1:Int) == 1 && (sIx items.size items.size hi - sIx items.size 0 lo) == items.size)=true then _ else _) _ _ s
 rw [if_neg hno,tV]
 first
  | exact b_ (m:=JU _) (Hy (d_ ⟨_,rfl,d_ h⟩) htake)
  | exact b_ (m:=JU _) (Hy (b_ (d_ (d_ ⟨_,rfl,d_ h⟩))) htake)
  | exact b_ (b_ (m:=JU _) (Hy (d_ (d_ ⟨_,rfl,d_ h⟩)) htake))
  | exact b_ (b_ (m:=JU _) (Hy (d_ ⟨_,rfl,d_ h⟩) htake))
end
end HT
namespace L2
open PySem PySem.Spec PyProof.Rows
abbrev TO:=St→Hp→(Option Int→Hp→Prop)→Prop
def PO (X:Cx) (e:Option Expr) (t:TO):Prop :=
 ∀ (pins:List (Addr×Obj)) (s:c_) (σ:St) (H:Hp) (Q:Option Int→Hp→Prop),Inv X pins σ H s→t σ H Q →
  k_ (p_ X.prog X.w) X.A (evalPart e X.env) (fun u s'=>∃ o H',Inv X pins σ H' s'∧Nh u o∧Q o H') X.xe s
def wI:TO:=fun _ H Q=>Q none H
def DY (t:TE):TO:=fun σ H Q=>t σ H fun x H1=>∃ i,x=.int i∧Q (some i) H1
section
variable {X:Cx} {e:Expr} {te:TE} {lo hi:Option Expr} {tl th:TO} {pos p2:Pos}
theorem wJ:PO X none wI:=by
 intro pins s σ H Q I h
 rw [evalPart_none]
 exact d_ ⟨none,H,I,.none,h⟩
theorem wK (h:PE X e te):PO X (some e) (DY te):=by
 intro pins s σ H Q I hw
 rw [evalPart_some]
 refine thn (h pins s σ H _ I hw) fun u s1 ⟨x,H1,I1,r1,q1⟩=>?_
 obtain ⟨i,rfl,q⟩:=q1
 obtain ⟨t,rfl⟩:=r1
 exact ⟨some i,H1,I1,.int i t,q⟩
def SlR (X:Cx) (r:V→Option Int→Option Int→Hp→VK→Prop):Prop :=
 ∀ (pins:List (Addr×Obj)) (s:c_) (σ:St) (H:Hp) (x:V) (v vl vu:Value) (lo hi:Option Int) (sl:Addr) (Q:VK),Inv X pins σ H s→RelV x v→s.heap.IsSliceOf sl vl vu .none→Nh vl lo→Nh vu hi→r x lo hi H Q →
  ∃ T id,typeLookup (.type T) "__getitem__"=pure (some (.builtin id))∧s.TypeIs v T∧k_ (p_ X.prog X.w) X.A (Nd v (.ref sl)) (EP X pins σ Q) X.xe s
theorem SlR.or {r r':V→Option Int→Option Int→Hp→VK→Prop} (h:SlR X r) (h':SlR X r'):SlR X (fun x lo hi H Q=>r x lo hi H Q∨r' x lo hi H Q):=by
 intro pins s σ H x v vl vu lo hi sl Q I rx hs pl pu q
 rcases q with q | q
 · exact h pins s σ H x v vl vu lo hi sl Q I rx hs pl pu q
 · exact h' pins s σ H x v vl vu lo hi sl Q I rx hs pl pu q
def tSl (r:V→Option Int→Option Int→Hp→VK→Prop) (te:TE) (tl th:TO):TE:=fun σ H Q=>te σ H fun x H1=>tl σ H1 fun l H2=>th σ H2 fun u H3=>r x l u H3 Q
theorem mU {r:V→Option Int→Option Int→Hp→VK→Prop} (hr:SlR X r) (he:PE X e te) (hl:PO X lo tl) (hu:PO X hi th):PE X (.Subscript e (.Slice lo hi none p2) pos) (tSl r te tl th):=by
 intro pins s σ H Q I h
 refine Subscript_ (thn (he pins s σ H _ I h) fun v s1 ⟨x,H1,I1,r1,q1⟩=>?_)
 refine wpAny_Slice (thn (hl pins s1 σ H1 _ I1 q1) fun vl s2 ⟨l,H2,I2,pl,q2⟩=>thn (hu pins s2 σ H2 _ I2 q2) fun vu s3 ⟨u,H3,I3,pu,q3⟩=>?_)
 rw [evalPart_none]
 refine d_ ?_
 have I4:Inv X pins σ H3 { s3 with heap:=s3.heap.push { cls:=.type "slice",data:=.fields #[vl,vu,.none] } }:=I3.kept (t':=s3.toks) fun b ob q=>e_ _ q
 obtain ⟨T,id,hT,ht,hg⟩:=hr pins { s3 with heap:=s3.heap.push { cls:=.type "slice",data:=.fields #[vl,vu,.none] } } σ H3 x v vl vu l u s3.heap.objs.size Q I4 r1 (Heap.IsSliceOf.new ..) pl pu q3
 show k_ (p_ X.prog X.w) X.A (subscriptTail e (.Slice lo hi none p2) v (.ref s3.heap.objs.size)) (EP X pins σ Q) X.xe { s3 with heap:=s3.heap.push { cls:=.type "slice",data:=.fields #[vl,vu,.none] } }
 exact tail_any (ops:=[.ref s3.heap.objs.size,v]) ht hT hg (by with_unfolding_all rfl)
def tW (xs:List V) (lo hi:Option Int):List V:=(xs.drop (HT.sIx xs.length 0 lo)).take (HT.sIx xs.length xs.length hi - HT.sIx xs.length 0 lo)
theorem gR (xs:List V) (lo hi:Option Int):(tW xs lo hi).length≤xs.length:=by
 unfold tW
 rw [M7,O3]
 omega
def GI (K:ck):V→Option Int→Option Int→Hp→VK→Prop:=fun x lo hi H Q=>∃ a xs,x=.ref a∧SqT K H a xs ∧
 ¬ (HT.sIx xs.length 0 lo=0∧HT.sIx xs.length xs.length hi=xs.length)∧∀ p,H p=none→Q (.ref p) (upd H p (.tup (tW xs lo hi)))
theorem sl_tup:SlR X (GI X.K):=by
 intro pins s σ H x v vl vu lo hi sl Q I rx hs pl pu h
 obtain ⟨a,xs,rfl,hx,hw,q⟩:=h
 cases rx
 obtain ⟨its,r,ht,hz⟩:=I.tuple hx
 have hlen:its.toArray.size=xs.length:=by rw [uk]; exact r.length.symm
 refine ⟨"tuple",_,Ia.lookup,ht.typeIs,?_⟩
 refine HT.getItem_tuple_cut ht hs pl pu (by rw [hlen]; exact hw) ?_ (by rw [hlen]; exact hz)
 rw [hlen]
 refine ⟨.ref s.heap.objs.size,_,I.laid (t':=s.toks) (o:=.tup (tW xs lo hi)) (fun b ob q=>e_ _ q) (n_ _) ?_,rfl,q _ (I.hok.fresh (n_ _))⟩
 exact ⟨Hm (gR xs lo hi) hz,_,(r.drop (HT.sIx xs.length 0 lo)).take (HT.sIx xs.length xs.length hi - HT.sIx xs.length 0 lo),PM _ _⟩
def zT (K:ck):R2:=fun x y H Q=>∃ a b xs ys,x=.ref a∧y=.ref b∧SqT K H a xs∧SqT K H b ys∧xs≠[]∧xs.length + ys.length≤sizeLine ∧
 (ys=[]→Q (.ref a) H)∧(ys≠[]→∀ p,H p=none→Q (.ref p) (upd H p (.tup (xs ++ ys))))
theorem Vals.nil_iff {xs:List V} {us:List Value} (r:Vals xs us):us=[]↔xs=[]:=by
 cases r with
 | nil=>simp
 | cons _ _=>simp
theorem op_catT:OpR X (Jd .Add) (zT X.K):=by
 intro pins s σ H x y v u Q I rx ry h
 obtain ⟨a,b,xs,ys,rfl,rfl,ha,hb,hx,hz,q1,q2⟩:=h
 cases rx
 cases ry
 obtain ⟨its,r1,p1,_⟩:=I.tuple ha
 obtain ⟨its2,r2,p2,_⟩:=I.tuple hb
 refine HT.cat_tup p1 p2 (fun z=>hx (r1.nil_iff.mp z)) (fun z=>⟨.ref a,H,I,rfl,q1 (r2.nil_iff.mp z)⟩) (fun z=>?_) (by rw [← r1.length,← r2.length]; exact hz)
 refine ⟨.ref s.heap.objs.size,_,I.laid (t':=s.toks) (o:=.tup (xs ++ ys)) (fun b ob q=>e_ _ q) (n_ _) ?_,rfl,q2 (fun w=>z (r2.nil_iff.mpr w)) _ (I.hok.fresh (n_ _))⟩
 exact ⟨by rw [II]; exact hz,_,r1.append r2,PM _ _⟩
end
def ixN (n:Nat) (i:Int):Option Nat:=if 0≤i then (if i < n then some i.toNat else none) else if -(n:Int)≤i then some (i + n).toNat else none
def atI {α:Type} (xs:List α) (i:Int):Option α:=(ixN xs.length i).bind fun j=>xs[j]?
theorem wL {n:Nat} {i:Int} {j:Nat} (h:ixN n i=some j):seqIndex? i n=some j∧j < n∧-(n:Int)≤i∧i < n:=by
 unfold ixN at h
 by_cases h0:0≤i
 · rw [if_pos h0] at h
   by_cases h1:i < n
   · rw [if_pos h1] at h
     have e:i.toNat=j:=HN h
     exact ⟨by rw [seqIndex_of h0 h1,e],by omega,by omega,h1⟩
   · rw [if_neg h1] at h; cases h
 · rw [if_neg h0] at h
   by_cases h1:-(n:Int)≤i
   · rw [if_pos h1] at h
     have e:(i + n).toNat=j:=HN h
     exact ⟨by rw [seqIndex_neg (by omega) h1,e],by omega,h1,by omega⟩
   · rw [if_neg h1] at h; cases h
theorem lG {α:Type} {xs:List α} {i:Int} {v:α} (h:atI xs i=some v):∃ j,seqIndex? i xs.length=some j∧xs[j]?=some v∧j < xs.length∧-(xs.length:Int)≤i∧i < xs.length:=by
 unfold atI at h
 cases e:ixN xs.length i with
 | none=>rw [e] at h; cases h
 | some j =>
  rw [e] at h
  obtain ⟨h1,h2,h3,h4⟩:=wL e
  exact ⟨j,h1,h,h2,h3,h4⟩
def qb (b:Expr):Prop:=∀ o i,O_ b false o i=operate [o,i] (Nd o i)
def IxR (X:Cx) (r:R2):Prop :=
 ∀ (value slice:Expr) (pins:List (Addr×Obj)) (s:c_) (σ:St) (H:Hp) (x y:V) (v u:Value) (Q:VK),Inv X pins σ H s→RelV x v→RelV y u→r x y H Q →
  O_ slice false v u=operate [v,u] (Nd v u)→k_ (p_ X.prog X.w) X.A (subscriptTail value slice v u) (EP X pins σ Q) X.xe s
def MtR (X:Cx) (id:String) (r:V→List V→Hp→VK→Prop):Prop :=
 ∀ (pins:List (Addr×Obj)) (s:c_) (σ:St) (H:Hp) (x:V) (xs:List V) (v:Value) (us:List Value) (Q:VK),Inv X pins σ H s→RelV x v→Vals xs us→r x xs H Q →
  k_ (p_ X.prog X.w) X.A (call (.builtin id) (v :: us)) (EP X pins σ Q) X.xe s
section
variable {X:Cx} {a b:Expr} {ta tb:TE} {pos:Pos}
theorem IxR.or {r r':R2} (h:IxR X r) (h':IxR X r'):IxR X (fun x y H Q=>r x y H Q∨r' x y H Q):=by
 intro value slice pins s σ H x y v u Q I rx ry q hs
 rcases q with q | q
 · exact h value slice pins s σ H x y v u Q I rx ry q hs
 · exact h' value slice pins s σ H x y v u Q I rx ry q hs
theorem MtR.or {id:String} {r r':V→List V→Hp→VK→Prop} (h:MtR X id r) (h':MtR X id r'):MtR X id (fun x xs H Q=>r x xs H Q∨r' x xs H Q):=by
 intro pins s σ H x xs v us Q I rx rs q
 rcases q with q | q
 · exact h pins s σ H x xs v us Q I rx rs q
 · exact h' pins s σ H x xs v us Q I rx rs q
theorem DZ {r:R2} (hr:IxR X r) (ha:PE X a ta) (hb:PE X b tb) (hs:qb b):PE X (.Subscript a b pos) (tOp r ta tb):=by
 intro pins s σ H Q I h
 exact Subscript_ (DO ha hb I h fun v u s2 x y H2 I2 rx ry q=>hr a b pins s2 σ H2 x y v u Q I2 rx ry q (hs _ _))
def F0 (K:ck):R2:=fun x y H Q=>∃ p xs i v,x=.ref p∧y=.int i∧SqL K H p xs∧atI xs i=some v∧Q v H
def F1 (K:ck):R2:=fun x y H Q=>∃ p xs i v,x=.ref p∧y=.int i∧SqT K H p xs∧atI xs i=some v∧Q v H
def F3:R2:=fun x y H Q=>∃ z i c,x=.str z∧y=.int i∧z.length≤sizeLine∧atI z.cps.toList i=some c∧Q (.str ⟨#[c]⟩) H
theorem ix_list:IxR X (F0 X.K):=by
 intro value slice pins s σ H x y v u Q I rx ry h hs
 obtain ⟨p,xs,i,z,rfl,rfl,hq,he,q⟩:=h
 cases rx
 obtain ⟨t,rfl⟩:=ry
 obtain ⟨its,r,pl,hz⟩:=I.list hq
 obtain ⟨j,h1,h2,h3,h4,h5⟩:=lG he
 obtain ⟨w,ew,rw'⟩:=r.get h2
 have hl:=r.length
 have hn:=mO
 have fin:EP X pins σ Q w s:=⟨z,H,I,rw',q⟩
 by_cases h0:0≤i
 · have hj:i.toNat=j:=by
    rw [seqIndex_of h0 h5] at h1
    exact HN h1
   exact item_listR pl.isList h0 (by omega) (by rw [hj]; simpa using ew) fin hs
 · have hj:(i + (its.toArray.size:Int)).toNat=j:=by
    rw [seqIndex_neg (by omega) h4] at h1
    rw [uk,← hl]
    exact HN h1
   exact Nk (x:=w) pl.isList.typeIs slot_list_getitem.lookup
    (wpAny_getItem_list_neg (Q:=fun r s'=>r=w∧EP X pins σ Q r s') pl.isList (by omega) (by rw [uk] <;> omega) (by omega) (by rw [hj]; simpa using ew) ⟨rfl,fin⟩) hs
theorem ix_tup:IxR X (F1 X.K):=by
 intro value slice pins s σ H x y v u Q I rx ry h hs
 obtain ⟨p,xs,i,z,rfl,rfl,hq,he,q⟩:=h
 cases rx
 obtain ⟨t,rfl⟩:=ry
 obtain ⟨its,r,pl,hz⟩:=I.tuple hq
 obtain ⟨j,h1,h2,h3,h4,h5⟩:=lG he
 obtain ⟨w,ew,rw'⟩:=r.get h2
 have hl:=r.length
 have hn:=mO
 have fin:EP X pins σ Q w s:=⟨z,H,I,rw',q⟩
 exact Nk (x:=w) pl.typeIs slot_tuple_getitem.lookup
  (getItem_tuple (j:=j) (Q:=fun r s'=>r=w∧EP X pins σ Q r s') pl (by omega) (by omega) (by rw [uk,← hl]; exact h1) (by simpa using ew) ⟨rfl,fin⟩) hs
theorem zU:IxR X F3:=by
 intro value slice pins s σ H x y v u Q I rx ry h hs
 obtain ⟨z,i,c,rfl,rfl,hz,he,q⟩:=h
 obtain ⟨t,rfl⟩:=rx
 obtain ⟨t',rfl⟩:=ry
 obtain ⟨j,h1,h2,h3,h4,h5⟩:=lG he
 have hl:z.cps.toList.length=z.length:=by simp [Str.length]
 rw [hl] at h1 h4 h5
 have hn:=mO
 exact tail_any (Lc s z t) slot_str_getitem.lookup (getItem_str (c:=c) (by
  have e1:decide (i < -(2 ^ 63:Int))=false:=decide_eq_false (by omega)
  have e2:decide (i ≥ 2 ^ 63)=false:=decide_eq_false (by omega)
  rw [e1,e2,Bool.or_false]) (by rw [h1]; simpa using h2) ⟨.str ⟨#[c]⟩,H,I.tok _,⟨_,rfl⟩,q⟩) hs
def rIx (K:ck):R2:=fun x y H Q=>F0 K x y H Q∨F1 K x y H Q∨F3 x y H Q
theorem zV:IxR X (rIx X.K):=ix_list.or (ix_tup.or zU)
theorem Inv.lst {pins:List (Addr×Obj)} {σ:St} {H:Hp} {s:c_} {p:Addr} {xs:List V} (I:Inv X pins σ H s) (h:H p=some (.lst xs)) :
 ∃ (its:List Value) (n:Nat),Vals xs its∧s.heap.get? p=some { cls:=.type "list",data:=.seq its.toArray n }∧xs.length≤sizeLine:=by
 obtain ⟨z,its,n,r,e⟩:=I.hok p _ h
 exact ⟨its,n,r,e,z⟩
theorem kc (lo hi:Option Int) (n:Nat):(Lg lo hi none n).1=((HT.sIx n 0 lo:Nat):Int)∧(Lg lo hi none n).2.1=((HT.sIx n n hi:Nat):Int)∧(Lg lo hi none n).2.2=1:=by
 refine ⟨?_,?_,rfl⟩
 · cases lo with
   | none=>simp [Lg,HT.sIx]
   | some i =>
    simp only [Lg,HT.sIx,OZ,show (1:Int) > 0 by decide,if_true]
    by_cases h:i < 0
    · simp only [h,if_true] <;> omega
    · simp only [h,if_false] <;> omega
 · cases hi with
   | none=>simp [Lg,HT.sIx]
   | some i =>
    simp only [Lg,HT.sIx,OZ,show (1:Int) > 0 by decide,if_true]
    by_cases h:i < 0
    · simp only [h,if_true] <;> omega
    · simp only [h,if_false] <;> omega
theorem jo (its:List Value) (lo hi:Option Int):slicePick its.toArray lo hi none=((its.drop (HT.sIx its.length 0 lo)).take (HT.sIx its.length its.length hi - HT.sIx its.length 0 lo)).toArray:=by
 obtain ⟨h1,h2,h3⟩:=kc lo hi its.toArray.size
 unfold slicePick
 rw [h1,h2,h3]
 simp only [sliceRange_one,pick_run,uk] <;> rfl
def GJ (K:ck):V→Option Int→Option Int→Hp→VK→Prop:=fun x lo hi H Q=>∃ a xs,x=.ref a∧SqL K H a xs∧∀ p,H p=none→Q (.ref p) (upd H p (.lst (tW xs lo hi)))
theorem qc:SlR X (GJ X.K):=by
 intro pins s σ H x v vl vu lo hi sl Q I rx hs pl pu h
 obtain ⟨a,xs,rfl,hx,q⟩:=h
 cases rx
 obtain ⟨its,r,ht,hz⟩:=I.list hx
 have hlen:=r.length
 refine ⟨"list",_,slot_list_getitem.lookup,ht.isList.typeIs,?_⟩
 refine wpAny_getItem_list_slice ht.isList hs pl pu .none (by simp) ?_ (by rw [uk] <;> omega)
 rw [jo,← hlen]
 refine ⟨.ref s.heap.objs.size,_,I.laid (t':=s.toks) (o:=.lst (tW xs lo hi)) (fun b ob q=>e_ _ q) (n_ _) ?_,rfl,q _ (I.hok.fresh (n_ _))⟩
 exact ⟨Hm (gR xs lo hi) hz,_,0,(r.drop (HT.sIx xs.length 0 lo)).take (HT.sIx xs.length xs.length hi - HT.sIx xs.length 0 lo),i_ _ rfl⟩
def dk:V→Bool
 | .non=>true
 | .bl _=>true
 | .int _=>true
 | .str _=>true
 | _=>false
def eqV:V→V→Bool
 | .non,.non=>true
 | .bl a,.bl b=>a == b
 | .bl a,.int b=>(if a then 1 else 0) == b
 | .int a,.bl b=>a == (if b then 1 else 0)
 | .int a,.int b=>a == b
 | .str a,.str b=>a == b
 | _,_=>false
theorem zW {A:w_} {s:c_} {y x:V} {u v:Value} (ry:RelV y u) (rx:RelV x v) (fy:dk y=true) (fx:dk x=true):SeqAt.EqAt A s u v (eqV y x):=by
 cases y with
 | non =>
  cases ry
  cases x with
  | non=>cases rx; exact SeqAt.EqAt.same _
  | bl b=>cases rx; exact SeqAt.EqAt.none_bool b
  | int b=>obtain ⟨t,rfl⟩:=rx; exact SeqAt.EqAt.none_int b t
  | str b=>obtain ⟨t,rfl⟩:=rx; exact SeqAt.EqAt.none_str b t
  | _=>exact absurd (show false=true from fx) pi
 | bl a =>
  cases ry
  cases x with
  | non=>cases rx; exact SeqAt.EqAt.bool_none a
  | bl b=>cases rx; exact NG a b
  | int b=>obtain ⟨t,rfl⟩:=rx; exact SeqAt.EqAt.bool_int a b t
  | str b=>obtain ⟨t,rfl⟩:=rx; exact SeqAt.EqAt.bool_str a b t
  | _=>exact absurd (show false=true from fx) pi
 | int a =>
  obtain ⟨t',rfl⟩:=ry
  cases x with
  | non=>cases rx; exact SeqAt.EqAt.int_none a t'
  | bl b=>cases rx; exact SeqAt.EqAt.int_bool a t' b
  | int b=>obtain ⟨t,rfl⟩:=rx; exact SeqAt.EqAt.int_int a t' b t
  | str b=>obtain ⟨t,rfl⟩:=rx; exact Oi a t' b t
  | _=>exact absurd (show false=true from fx) pi
 | str a =>
  obtain ⟨t',rfl⟩:=ry
  cases x with
  | non=>cases rx; exact SeqAt.EqAt.str_none a t'
  | bl b=>cases rx; exact SeqAt.EqAt.str_bool a t' b
  | int b=>obtain ⟨t,rfl⟩:=rx; exact Oh a t' b t
  | str b=>obtain ⟨t,rfl⟩:=rx; exact SeqAt.EqAt.str_str a t' b t
  | _=>exact absurd (show false=true from fx) pi
 | _=>exact absurd (show false=true from fy) pi
def eqU (x:V) (u:Value):Bool:=match u with
 | .none=>eqV .non x
 | .bool b=>eqV (.bl b) x
 | .int i _=>eqV (.int i) x
 | .str z _=>eqV (.str z) x
 | _=>false
theorem mV {x y:V} {u:Value} (r:RelV y u) (f:dk y=true):eqU x u=eqV y x:=by
 cases y with
 | non=>cases r; rfl
 | bl b=>cases r; rfl
 | int i=>obtain ⟨t,rfl⟩:=r; rfl
 | str z=>obtain ⟨t,rfl⟩:=r; rfl
 | _=>exact absurd (show false=true from f) pi
theorem gS {x:V}:∀ {xs:List V} {us:List Value},Vals xs us→xs.all dk=true→us.any (eqU x)=xs.any fun y=>eqV y x
 | _,_,.nil,_=>rfl
 | y :: xs,u :: us,.cons r t,f=>by
  rw [Im,j_] at f
  rw [LU,LU,mV r f.1,gS t f.2]
theorem c7 {A:w_} {s:c_} {x:V} {v:Value} (rx:RelV x v) (fx:dk x=true):∀ {xs:List V} {us:List Value},Vals xs us→xs.all dk=true→∀ u∈us,SeqAt.EqAt A s u v (eqU x u)
 | _,_,.nil,_=>fun u hu=>by cases hu
 | y :: xs,u :: us,.cons r t,f=>fun u' hu=>by
  rw [Im,j_] at f
  rcases on.mp hu with rfl | hu
  · rw [mV r f.1]; exact zW r rx f.1 fx
  · exact c7 rx fx t f.2 u' hu
def inV (x:V) (xs:List V):Bool:=xs.any fun y=>eqV y x
def rIn (K:ck) (neg:Bool):R2:=fun x y H Q=>∃ p xs,y=.ref p∧(SqL K H p xs∨SqT K H p xs)∧dk x=true∧xs.all dk=true∧Q (.bl (if neg then !inV x xs else inV x xs)) H
theorem qd:OpR X (Hu .In) (rIn X.K false):=by
 intro pins s σ H x y v u Q I rx ry h
 obtain ⟨p,xs,rfl,hq,fx,fs,q⟩:=h
 cases ry
 rcases hq with hq | hq
 · obtain ⟨its,r,pl,hz⟩:=I.list hq
   refine SeqAt.in_listAt (eqU x) pl.isList (fun w hw=>c7 rx fx r fs w (by simpa using hw)) ⟨.bl _,H,I,rfl,?_⟩
   rw [show its.toArray.any (eqU x)=its.any (eqU x) by simp,gS r fs]
   exact q
 · obtain ⟨its,r,pl,hz⟩:=I.tuple hq
   refine SeqAt.in_tupleAt (eqU x) pl (fun w hw=>c7 rx fx r fs w (by simpa using hw)) ⟨.bl _,H,I,rfl,?_⟩
   rw [show its.toArray.any (eqU x)=its.any (eqU x) by simp,gS r fs]
   exact q
theorem kf:OpR X (Hu .NotIn) (rIn X.K true):=by
 intro pins s σ H x y v u Q I rx ry h
 obtain ⟨p,xs,rfl,hq,fx,fs,q⟩:=h
 cases ry
 rcases hq with hq | hq
 · obtain ⟨its,r,pl,hz⟩:=I.list hq
   refine SeqAt.notIn_listAt (eqU x) pl.isList (fun w hw=>c7 rx fx r fs w (by simpa using hw)) ⟨.bl _,H,I,rfl,?_⟩
   rw [show its.toArray.any (eqU x)=its.any (eqU x) by simp,gS r fs]
   exact q
 · obtain ⟨its,r,pl,hz⟩:=I.tuple hq
   refine SeqAt.notIn_tupleAt (eqU x) pl (fun w hw=>c7 rx fx r fs w (by simpa using hw)) ⟨.bl _,H,I,rfl,?_⟩
   rw [show its.toArray.any (eqU x)=its.any (eqU x) by simp,gS r fs]
   exact q
theorem op_notIn_str:OpR X (Hu .NotIn) (fun x y H Q=>∃ i j,x=.str i∧y=.str j∧Q (.bl (!(!(Hx j i 0 j.length 1).isEmpty))) H):=by
 intro pins s σ H x y v u Q I rx ry h
 obtain ⟨i,j,rfl,rfl,q⟩:=h
 obtain ⟨t,rfl⟩:=rx
 obtain ⟨t',rfl⟩:=ry
 exact notIn_str ⟨.bl _,H,I,rfl,q⟩
theorem CallR.or {f:Value} {r r':List V→Hp→VK→Prop} (h:CallR X f r) (h':CallR X f r'):CallR X f (fun xs H Q=>r xs H Q∨r' xs H Q):=by
 intro pins s σ H xs us Q I rs q
 rcases q with q | q
 · exact h pins s σ H xs us Q I rs q
 · exact h' pins s σ H xs us Q I rs q
theorem gc:CallR X (.type "list") (fun xs H Q=>∃ p ys,xs=[.ref p]∧(SqL X.K H p ys∨SqT X.K H p ys)∧∀ l,H l=none→Q (.ref l) (upd H l (.lst ys))):=by
 intro pins s σ H xs us Q I r h
 obtain ⟨p,ys,rfl,hq,q⟩:=h
 obtain ⟨u,rfl,rx⟩:=cT r
 cases rx
 have fin:∀ (its:List Value),Vals ys its→ys.length≤sizeLine→∀ (h':Heap) (c':Nat),(∀ b o',s.heap.get? b=some o'→h'.get? b=some o') →
  h'.get? s.heap.objs.size=some { cls:=.type "list",dict:=none,data:=.seq its.toArray c',slots:=#[] }→EP X pins σ Q (.ref s.heap.objs.size) { s with heap:=h' }:=fun its r' hz h' c' kp e =>
  ⟨.ref s.heap.objs.size,_,I.laid (t':=s.toks) kp (n_ _) (show ObjOk X.prog X.w _ h' _ (.lst ys) from ⟨hz,its,c',r',e⟩),rfl,q _ (I.hok.fresh (n_ _))⟩
 rcases hq with hq | hq
 · obtain ⟨its,r',pl,hz⟩:=I.list hq
   have hlen:=r'.length
   obtain ⟨o,ho,hc,n,hd⟩:=pl.isList
   exact call_list_seq p (.inl rfl) ho hc hd (fun h' c' kp e=>fin its r' hz h' c' kp e) (by simp only [uk] <;> omega)
 · obtain ⟨its,r',pl,hz⟩:=I.tuple hq
   have hlen:=r'.length
   obtain ⟨o,ho,hc,n,hd⟩:=pl
   exact call_list_seq p (.inr rfl) ho hc hd (fun h' c' kp e=>fin its r' hz h' c' kp e) (by simp only [uk] <;> omega)
theorem jp:CallR X (.type "tuple") (fun xs H Q=>∃ p ys,xs=[.ref p]∧((SqL X.K H p ys∧∀ l,H l=none→Q (.ref l) (upd H l (.tup ys)))∨(SqT X.K H p ys∧Q (.ref p) H))):=by
 intro pins s σ H xs us Q I r h
 obtain ⟨p,ys,rfl,h⟩:=h
 obtain ⟨u,rfl,rx⟩:=cT r
 cases rx
 rcases h with ⟨hq,q⟩ | ⟨hq,q⟩
 · obtain ⟨its,r',pl,hz⟩:=I.list hq
   have hlen:=r'.length
   refine call_tuple_list pl.isList (fun h' kp=>?_) (by simp only [uk] <;> omega)
   have I1:Inv X pins σ H { s with heap:=h' }:=I.kept (t':=s.toks) kp
   have I2:Inv X pins σ (upd H h'.objs.size (.tup ys)) { s with heap:=h'.push { cls:=.type "tuple",data:=.seq its.toArray } } :=
    I1.laid (t':=s.toks) (fun b o e=>e_ _ e) (n_ _) (show ObjOk X.prog X.w _ _ _ (.tup ys) from ⟨hz,its,r',PM _ _⟩)
   exact ⟨.ref h'.objs.size,_,I2,rfl,q _ (I1.hok.fresh (n_ _))⟩
 · obtain ⟨its,r',pl,hz⟩:=I.tuple hq
   exact call_tuple_same pl ⟨.ref p,H,I,rfl,q⟩
def tyV (K:ck) (T:String) (x:V) (H:Hp):Prop:=match x with
 | .str _=>T="str"
 | .int _=>T="int"
 | .ref p=>(T="list"∧∃ xs,SqL K H p xs)∨(T="tuple"∧∃ o,K.lookup p=some o∧o.cls=.type "tuple"∧o.dict=none) ∨
  (T="dict"∧((∃ kvs,H p=some (.dK kvs))∨∃ kvs,H p=some (.dT kvs)))∨(T="set"∧∃ S n,H p=some (.set S n))
 | _=>False
theorem zX {pins:List (Addr×Obj)} {σ:St} {H:Hp} {s:c_} {T:String} {x:V} {v:Value} (I:Inv X pins σ H s) (r:RelV x v) (ty:tyV X.K T x H) :
 s.TypeIs v T∧∀ a,v=.ref a→∃ ob,s.heap.get? a=some ob∧ob.dict=none:=by
 cases x with
 | str z =>
  obtain ⟨t,rfl⟩:=r
  cases (show T="str" from ty)
  exact ⟨Lc s z t,fun _ e=>nomatch e⟩
 | int i =>
  obtain ⟨t,rfl⟩:=r
  cases (show T="int" from ty)
  exact ⟨Oa s i t,fun _ e=>nomatch e⟩
 | ref p =>
  cases r
  rcases ty with ⟨rfl,xs,hq⟩ | ⟨rfl,o,hk,hc,hd⟩ | ⟨rfl,hk⟩ | ⟨rfl,S,n,hk⟩
  · obtain ⟨its,_,pl,_⟩:=I.list hq
    refine ⟨pl.isList.typeIs,fun a e=>?_⟩
    cases e
    obtain ⟨o,n,e,c,hd,_⟩:=pl
    exact ⟨o,e,hd⟩
  · refine ⟨⟨o,I.kIn p o hk,hc⟩,fun a e=>?_⟩
    cases e
    exact ⟨o,I.kIn _ o hk,hd⟩
  · have z:∃ o,s.heap.get? p=some o∧o.ExactDict:=by
     rcases hk with ⟨kvs,hk⟩ | ⟨kvs,hk⟩
     · obtain ⟨_,_,_,_,o,_,_,e,ex,_⟩:=I.hok p _ hk
       exact ⟨o,e,ex⟩
     · obtain ⟨_,_,_,_,o,_,_,e,ex,_⟩:=I.hok p _ hk
       exact ⟨o,e,ex⟩
    obtain ⟨o,e,ex⟩:=z
    refine ⟨⟨o,e,ex.1⟩,fun a e2=>?_⟩
    cases e2
    exact ⟨o,e,ex.2.1⟩
  · obtain ⟨o,_,_,_,e,ex,_⟩:=I.hok p _ hk
    refine ⟨⟨o,e,ex.1⟩,fun a e2=>?_⟩
    cases e2
    exact ⟨o,e,ex.2.1⟩
 | _=>exact Ht ty
def tBM (K:ck) (T:String) (r:V→List V→Hp→VK→Prop) (to:TE) (t:TA):TE:=fun σ H Q=>to σ H fun x H1=>tyV K T x H1∧t σ H1 fun xs H2=>r x xs H2 Q
variable {o e:Expr} {es:List Expr} {to:TE} {t:TA} {name:Str} {apos cpos:Pos} {T id:String} {r:V→List V→Hp→VK→Prop}
theorem oN (pa:PlainAttrs T) (slot:Slot T name id) (hty:N_ (.builtin id)=pure (.type "method_descriptor")) (hm:MtR X id r) (ho:PE X o to) (ha:PA X (e :: es) t)
 (hbase:IU o name X.env (eval o X.env)=eval o X.env:=by rfl)
 (hfew:((Ho cpos (f_ (e :: es) X.env)).all (fun x=>!x.1) && (Jn cpos (Io [] X.env)).all (fun x=>x.1.isSome)
   && decide ((e :: es).length + ([]:List Jc).length + (if ([]:List Jc).isEmpty then 0 else 1) < 30))=true:=by rfl)
 (hline:(apos.endLine == cpos.line)=true:=by rfl) (hs:f_ (e :: es) X.env=(false,eval e X.env) :: f_ es X.env:=by rfl) (hplain:(Ho cpos (f_ es X.env)).any (·.1)=false:=by rfl) :
 PE X (.Call (.Attribute o name apos) (e :: es) [] cpos) (tBM X.K T r to t):=by
 intro pins s σ H Q I h
 refine wpAny_Call_method_late hbase hfew hline rfl (thn (ho pins s σ H _ I h) fun v s1 ⟨x,H1,I1,r1,ty,q1⟩=>?_)
 obtain ⟨h1,h2⟩:=zX I1 r1 ty
 refine ⟨T,id,pa,slot,hty,h1,h2,?_⟩
 have hA:=ha cpos pins s1 σ H1 _ I1 q1
 rw [hs] at hA ⊢
 refine Calls.callWith_builtin (by show (false || (Ho cpos (f_ es X.env)).any (·.1))=false; rw [hplain] <;> rfl) (NL ?_)
 exact thn hA fun us s2 ⟨vs,H2,I2,r2,q2⟩=>hm pins s2 σ H2 x vs v us Q I2 r1 r2 q2
end
def MtM (X:Cx) (id:String) (r:V→List V→Hp→VK→Prop):Prop :=
 ∀ (pins:List (Addr×Obj)) (s:c_) (σ:St) (H:Hp) (x:V) (xs:List V) (v:Value) (us:List Value) (Q:VK),Inv X pins σ H s→RelV x v→Vals xs us→r x xs H Q →
  k_ (p_ X.prog X.w) X.A (call (.builtin id) (v :: us)) (EP X pins σ Q) X.xe s
theorem Vals.one:∀ {x:V} {us:List Value},Vals [x] us→∃ u,us=[u]∧RelV x u
 | _,_,.cons r .nil=>⟨_,rfl,r⟩
theorem Vals.two:∀ {x y:V} {us:List Value},Vals [x,y] us→∃ u v,us=[u,v]∧RelV x u∧RelV y v
 | _,_,_,.cons r (.cons q .nil)=>⟨_,_,rfl,r,q⟩
theorem Vals.zero:∀ {us:List Value},Vals [] us→us=[]
 | _,.nil=>rfl
theorem Vals.eraseIdx:∀ {xs:List V} {us:List Value} (i:Nat),Vals xs us→Vals (xs.eraseIdx i) (us.eraseIdx i)
 | _,_,_,.nil=>.nil
 | _,_,0,.cons _ t=>t
 | _,_,i + 1,.cons r t=>.cons r (Vals.eraseIdx i t)
theorem Vals.reverse {xs:List V} {us:List Value} (h:Vals xs us):Vals xs.reverse us.reverse:=by
 induction h with
 | nil=>exact .nil
 | cons r t ih=>rw [JM,JM]; exact Vals.append ih (.cons r .nil)
theorem Vals.rep {xs:List V} {us:List Value} (h:Vals xs us):∀ k:Nat,Vals (q_ k xs).flatten (q_ k us).flatten
 | 0=>.nil
 | k + 1=>by
  rw [ID,ID,JN,JN]
  exact Vals.append h (Vals.rep h k)
theorem kg (its:List Value):∀ (k:Nat) (acc:List Value),
 On (fun x1 x2=>x1 ++ x2) acc.toArray (q_ k its.toArray)=(acc ++ (q_ k its).flatten).toArray
 | 0,acc=>by simp
 | k + 1,acc=>by
  have e:acc.toArray ++ its.toArray=(acc ++ its).toArray:=by simp
  have e2:(acc ++ its) ++ (q_ k its).flatten=acc ++ (q_ (k + 1) its).flatten:=by
   rw [ID,JN,KG]
  rw [← e2,← kg its k (acc ++ its),← e,ID,L9]
section
variable {X:Cx} {pins:List (Addr×Obj)} {σ:St} {H:Hp} {s:c_} {l b:Addr} {xs ys zs:List V}
theorem Inv.lset {its its':List Value} {n:Nat} {f:Array Value→Array Value} {t':Nat} (I:Inv X pins σ H s) (hH:H l=some (.lst xs))
 (e:s.heap.get? l=some { cls:=.type "list",data:=.seq its.toArray n }) (hf:f its.toArray=its'.toArray) (hv:Vals ys its') (hz:ys.length≤sizeLine) :
 Inv X pins σ (upd H l (.lst ys)) { s with heap:=s.heap.update l (HB f),toks:=t' }:=by
 have q:=OV e f
 rw [hf] at q
 refine I.write (x:=l) (e:=l) (by rw [hH]; exact trivial) (.inl rfl) (fun b' u hb hu=>(Kl s.heap (HB f) (IG hb)).trans hu) ⟨_,q⟩ ?_
 exact ⟨hz,its',_,hv,q⟩
theorem Inv.lnew {its:List Value} {t':Nat} (I:Inv X pins σ H s) (hv:Vals ys its) (hz:ys.length≤sizeLine) :
 Inv X pins σ (upd H s.heap.objs.size (.lst ys)) { s with heap:=s.heap.push { cls:=.type "list",data:=.seq its.toArray },toks:=t' } :=
 I.laid (fun _ _ q=>e_ _ q) (n_ _) ⟨hz,its,0,hv,i_ _ rfl⟩
theorem Inv.fresh (I:Inv X pins σ H s):H s.heap.objs.size=none:=I.hok.fresh (n_ _)
theorem Inv.lstM (I:Inv X pins σ H s) (hH:H l=some (.lst xs)):xs.length≤sizeLine∧∃ (its:List Value) (n:Nat),Vals xs its∧xs.length=its.length∧s.heap.get? l=some { cls:=.type "list",data:=.seq its.toArray n }:=by
 obtain ⟨z,its,n,r,e⟩:=I.hok l _ hH
 exact ⟨z,its,n,r,r.length,e⟩
theorem tX {n:Nat} (h:n≤sizeLine):K6 n=false:=by
 unfold K6
 exact decide_eq_false (by omega)
end
section
variable {X:Cx}
def wM:V→List V→Hp→VK→Prop:=fun x vs H Q=>∃ l xs y,x=.ref l∧vs=[y]∧H l=some (.lst xs)∧xs.length < sizeLine∧Q .non (upd H l (.lst (xs ++ [y])))
theorem kh:MtM X "list.append" wM:=by
 intro pins s σ H x vs v us Q I rx rv h
 obtain ⟨l,xs,y,rfl,rfl,hH,hz,q⟩:=h
 cases rx
 obtain ⟨u,rfl,ru⟩:=rv.one
 obtain ⟨z,its,n,r,hl,e⟩:=I.lstM hH
 refine JQ Kx ⟨_,e,rfl⟩ NZ (NK _ _) (Ou l its.toArray n u (by rw [uk]; omega)) ⟨e,?_⟩
 refine ⟨.non,_,I.lset (its':=its ++ [u]) hH e (by simp) (r.append (.cons ru .nil)) ?_,rfl,q⟩
 rw [II,Nx]
 omega
def F4:R2:=fun x y H Q=>∃ l b xs zs,x=.ref l∧y=.ref b∧H l=some (.lst xs)∧H b=some (.lst zs)∧xs.length + zs.length≤sizeLine∧∀ p,H p=none→Q (.ref p) (upd H p (.lst (xs ++ zs)))
theorem zY:OpR X (Jd .Add) F4:=by
 intro pins s σ H x y v u Q I rx ry h
 obtain ⟨l,b,xs,zs,rfl,rfl,hH,hB,hz,q⟩:=h
 cases rx
 cases ry
 obtain ⟨z,its,n,r,hl,e⟩:=I.lstM hH
 obtain ⟨z2,its2,n2,r2,hl2,e2⟩:=I.lstM hB
 refine PySem.P.add_list e e2 ?_ (by rw [uk,uk]; omega)
 have ea:its.toArray ++ its2.toArray=(its ++ its2).toArray:=by simp
 rw [ea]
 exact ⟨.ref _,_,I.lnew (t':=s.toks) (r.append r2) (by rw [II]; omega),rfl,q _ I.fresh⟩
def F5:R2:=fun x y H Q=>∃ l k xs,x=.ref l∧y=.int k∧H l=some (.lst xs)∧-(2 ^ 63)≤k∧k < 2 ^ 63∧xs.length * k.toNat≤sizeLine ∧
 ∀ p,H p=none→Q (.ref p) (upd H p (.lst (q_ k.toNat xs).flatten))
theorem wN {α:Type} (xs:List α) (k:Nat):(q_ k xs).flatten.length=k * xs.length:=by
 induction k with
 | zero=>simp
 | succ k ih=>rw [ID,JN,II,ih,Nat.succ_mul,Nat.add_comm]
theorem op_rep:OpR X (Jd .Mult) F5:=by
 intro pins s σ H x y v u Q I rx ry h
 obtain ⟨l,k,xs,rfl,rfl,hH,h1,h2,hz,q⟩:=h
 cases rx
 obtain ⟨t,rfl⟩:=ry
 obtain ⟨z,its,n,r,hl,e⟩:=I.lstM hH
 have hlen:its.toArray.size * k.toNat≤sizeLine:=by rw [uk,← hl]; exact hz
 have hcap:¬ its.toArray.size * k.toNat > (2 ^ 63 - 1) / 8:=by
  have:(sizeLine:Nat)≤(2 ^ 63 - 1) / 8:=by decide
  omega
 have hfit:¬ (!Builtin.List.listFitsIndex k)=true:=by
  rw [fitsIndex_both h1 h2]
  exact pi
 have hlong:¬ K6 (its.toArray.size * k.toNat)=true:=by
  rw [tX hlen]
  exact pi
 have hnew:On (fun x1 x2=>x1 ++ x2) #[] (q_ (if its.toArray.isEmpty=true then 0 else k.toNat) its.toArray)=(q_ k.toNat its).flatten.toArray:=by
  have f0:∀ m:Nat,On (fun x1 x2=>x1 ++ x2) #[] (q_ m its.toArray)=(q_ m its).flatten.toArray:=fun m=>by
   have:=kg its m []
   rw [Ph] at this
   exact this
  rw [f0]
  cases its with
  | nil=>simp
  | cons a r'=>rw [if_neg (by simp)]
 refine wpAny_binaryOp_repeat_ref (T:="list") (U:="int") (by decide) ⟨_,e,rfl⟩ (fun s'=>Oa s' k t) noFill_list_mul F.fills_int_mul F.slot_int_rmul repeat_list F.slot_int_index.lookup
  (JQ F.slot_int_rmul (Oa s k t) F.entry_int_rmul (F.args_int_rmul_2 _ _) (int___rmul___int_list k t l its.toArray n)
    ⟨e,rfl,⟨_,e,rfl⟩,JQ F.slot_list_mul ⟨_,e,rfl⟩ F.entry_list_mul (F.args_list_mul_2 _ _) (AutoListH.list___mul___list_int_3 l its.toArray n k t hfit hcap hlong) ⟨e,?_⟩⟩)
 rw [hnew]
 exact ⟨.ref _,_,I.lnew (t':=s.toks) (r.rep k.toNat) (by rw [wN,OJ]; exact hz),rfl,q _ I.fresh⟩
end
section
variable {prog:Program} {w:D_} {A:w_} {E:Value→c_→Prop} {s:c_}
end
section
variable {X:Cx}
end
end L2
namespace Att
open PySem PySem.W PySem.Calls PyProof.Rows
theorem gT {P:NH} {h:Heap}:∀ (ns:List Int) (vs:List Value),WellAll P h vs (ns.map WData.int)→OI vs ns:=by
 intro ns
 induction ns with
 | nil =>
  intro vs w
  rw [List.map_nil] at w
  cases w
  exact .nil
 | cons n ns ih =>
  intro vs w
  rw [y_] at w
  cases w with
  | cons a b =>
   cases a
   exact .cons _ _ (ih _ b)
theorem qe {l:OpenLaw} {n:Nat} (hn:l.most=some n) {P:NH} {h:Heap} {args:List WData} {vals:List Value}
 (hpre:l.row.toRowW.claim.pre args=true) (hwl:WellAll P h vals args) :
 ∃ a vs ns,vals=[xy a]∧args=[WData.list (ns.map WData.int)]∧h.get? a=some { cls:=.type "list",data:=.seq vs.toArray }∧OI vs ns∧ns.length≤n:=by
 have hsh:WShape.hasAll [] args [.list .int]=true:=(pre_splitW hpre).1
 have hc:l.pre.holds [] { args:=args }=true:=(pre_splitW hpre).2
 obtain ⟨d,r,rfl,h1,h2⟩:=hasAllW_cons hsh
 obtain rfl:=hasAllW_nil h2
 obtain ⟨xs,rfl,h3⟩:=hasW_list h1
 obtain ⟨ns,rfl⟩:=items_int h3
 have hlen:ns.length≤n:=by
  unfold OpenLaw.pre at hc
  have h4:(WTm.not (.lt (.lit (.int (n:Int))) (.len (.arg 0)))).holds [] { args:=[.list (ns.map .int)] }=true:=by
   have h4:=(holds_andW hc).1
   rw [hn] at h4
   exact h4
  have h5:=condW_of h4 (w_not (w_lt w_lit (w_len_list (w_arg rfl))))
  rw [HF] at h5
  refine Nat.le_of_not_lt fun q=>?_
  have q':(n:Int) < ((ns.length:Nat):Int):=by omega
  first
   | (rw [decide_eq_true q'] at h5; exact absurd h5 (by decide))
   | (simp at h5; omega)
 cases hwl with
 | cons w1 w2 =>
  cases w2
  cases w1 with
  | list ho hall=>exact ⟨_,_,ns,rfl,rfl,ho,gT ns _ hall,hlen⟩
theorem qf (l:OpenLaw) (args:List WData):l.row.toRowW.claim.post args (.bool true) args=true :=
 postW_of (r:=l.row.toRowW) (X:=(true == true))
  (show WShape.has [] (.bool true) .bool=true by first | rfl | decide | simp [WShape.has,WShape.arms,WShape.armsAll])
  (show (WTm.eq .res (.lit (.bool true))).value [] { args:=args,res:=some (.bool true),after:=args }=some (.bool (true == true)) from w_eq_bool (w_res rfl) w_lit) rfl
theorem attach_call {l:OpenLaw} {n:Nat} {q:Program} {loose:List Str} {XP:(Str→Option Value)→Heap→Prop} {YP:D_→Heap→Prop} {d:DefRec}
 (hn:l.most=some n) (hdf:d.params.defaults=[])
 (call:∀ (w:D_) (s₀ s₁:c_) (mg mb:Str→Option Value) (fa:Addr) (o:Obj) (pm cd doc:Value) (a:Addr) (vs:List Value) (ns:List Int),
   Ground q loose [] XP w s₀ mg mb s₁.heap→YP w s₁.heap →
   s₁.heap.get? fa=some o→o.data=.func (docDef d.name d.params d.body d.scope pm cd doc)→s₁.heap.CodeRec cd d.name→mg d.name=some (.ref fa) →
   s₁.heap.get? a=some { cls:=.type "list",data:=.seq vs.toArray }→OI vs ns→ns.length≤n→s₁.gens=#[] →
   Ki (p_ l.prog w) NW (.call (.ref fa) ⟨[.ref a],[]⟩) (fun r s'=>r=.ok (.ret (.bool true))∧OldK s₁.heap s'.heap∧s'.os=s₁.os∧Me s'.gens) s₁) :
 WalkO q loose XP YP l.row.toRowW d [] (fun f vs=>Pq f vs):=by
 intro w s₀ s₁ mg mb G Y fa o pm cd doc dV kV ho hd hcd hD hmg hg args vals as hpre hlay hrd hwl hlo
 obtain rfl:dV=.none:=Dflts.none hD hdf
 obtain rfl:kV=.none:=Dflts.noKw hD
 obtain ⟨a,vs,ns,rfl,rfl,hobj,hints,hlen⟩:=qe hn hpre hwl
 refine enter_call (Jh (call w s₀ s₁ mg mb fa o pm cd doc a vs ns G Y ho (fd_plain hd) hcd hmg hobj hints hlen hg) fun r s' hq=>?_)
 obtain ⟨rfl,h2,h3,h4⟩:=hq
 exact ⟨.inl ⟨.bool true,.bool true,[],rfl,fun _=>rfl,.bool true,qf l _,fun _=>⟨LA,fun _ hm=>(nomatch hm)⟩⟩,h2,h3,h4⟩
section
variable {prog:Program} {w:D_} {A:w_} {E:Value→c_→Prop} {s:c_} {K:Frag}
def F6 (h:Heap) (L d:Addr):List (Addr×Obj):=(h_ h.objs.size).filterMap fun a=>if a=L∨a=d then none else (h.get? a).map fun o=>(a,o)
end
end Att
namespace L2
open PySem PySem.Spec PyProof.Rows
theorem eY:∀ {vs:List Value} {ns:List Int},OI vs ns→Vals (ns.map V.int) vs
 | _,_,.nil=>.nil
 | _,_,.cons n t h=>.cons ⟨t,rfl⟩ (eY h)
def D4 (H:Hp):Prop:=∀ b,H b=none∨∃ o xs,H b=some (.frz o (.lst xs))
theorem tY {P:Program} {w:D_} {K:ck} {mg mb:Str→Option Value} {CX:CXT} {k:Nat} {fa a:Addr} {fd:Iu} {x:Str} {sp:Sp} {s₁:c_} {vs:List Value} {ns:List Int}
 (KX:K.In s₁.heap) (hns:s₁.heap.Ns C_ mg) (hb:s₁.heap.Ns Oe mb) (hbb:∀ x:Str,x≠"__name__"→mb x=Iq x) (hlim:s₁.heap.NoLimit) (hg:s₁.gens=#[])
 (ha:s₁.heap.get? a=some { cls:=.type "list",data:=.seq vs.toArray }) (hi:OI vs ns) (hl:ns.length≤sizeLine) (hr:Room k NW)
 (F:∀ base:Heap,K.In base→base.Ns C_ mg→FnOk P w K mg base CX k fa fd [x] sp) (hbind:∀ (s:c_) (u:Value),MG s fd ⟨[u],[]⟩ [(x,u)])
 (hsp:∀ H:Hp,D4 H→SqL K H a (ns.map V.int)→sp [.ref a] H (fun v _=>v=.bl true) fun _ _ _=>False)
 (hCX:∀ H e s',CX [] H s₁ (fun _ _ _=>False) e s'→False) :
 Ki (p_ P w) NW (.call (.ref fa) ⟨[.ref a],[]⟩) (fun r s'=>r=.ok (.ret (.bool true))∧OldK s₁.heap s'.heap∧s'.os=s₁.os∧Me s'.gens) s₁:=by
 have rv:=eY hi
 have lenV:=hi.length
 have core:∀ H:Hp,D4 H→SqL K H a (ns.map V.int)→HOk P w H s₁.heap→(∀ b,H b≠none→b=a)→(H a≠none→K.lookup a=none) →
  Ki (p_ P w) NW (.call (.ref fa) ⟨[.ref a],[]⟩) (fun r s'=>r=.ok (.ret (.bool true))∧OldK s₁.heap s'.heap∧s'.os=s₁.os∧Me s'.gens) s₁:=by
  intro H hO hS hok hA hK
  have base_of:∀ {b:Addr} {o:Obj},s₁.heap.get? b=some o→H b=none→(tJ s₁.heap H).get? b=some o:=fun e n=>tK e n
  have noA:∀ {b:Addr} {o:Obj} {es:Array DictEntry} {ep:Nat},s₁.heap.get? b=some o→o.data=.dict es ep→H b=none:=fun {b o es ep} e d=>by
   cases q:H b with
   | none=>rfl
   | some u =>
    have e':b=a:=hA b (by rw [q]; simp)
    subst e'
    rw [ha] at e; cases e
    have d':Data.seq vs.toArray _=Ku es ep:=d
    cases d'
  have nsK:∀ {b:Addr} {m:Str→Option Value},s₁.heap.Ns b m→(tJ s₁.heap H).Ns b m:=fun {b m} ⟨o,es,ep,e,d,r⟩=>⟨o,es,ep,base_of e (noA e d),d,r⟩
  have hKb:K.In (tJ s₁.heap H):=fun b o e=>base_of (KX b o e) (by
   cases q:H b with
   | none=>rfl
   | some u =>
    have e':b=a:=hA b (by rw [q]; simp)
    subst e'
    rw [hK (by rw [q]; simp)] at e; cases e)
  have hM:Mod K mg (tJ s₁.heap H):=⟨hKb,nsK hns,⟨mb,nsK hb,hbb⟩,let ⟨mc,h1,h2⟩:=hlim; ⟨mc,nsK h1,h2⟩⟩
  have e0:Env0 P w K mg (tJ s₁.heap H) NW [] s₁ H:=⟨rfl,hM,fun b o e=>wz e,Lz (pL _ _),trivial,fun b hb=>absurd (show b∈([]:List Addr) from hb) (by simp),hok,.of_eq hg⟩
  refine Jh ((F _ hKb (nsK hns)).run NW [] s₁ H ⟨[.ref a],[]⟩ [.ref a] [.ref a] _ _ hr e0 (hbind s₁ (.ref a)) (.cons rfl .nil) (hsp H hO hS)) fun r s' h=>?_
  cases r with
  | error e=>exact (hCX H e s' h).elim
  | ok fl =>
   cases fl with
   | next=>exact Ht h
   | brk=>exact Ht h
   | cont=>exact Ht h
   | ret u =>
    obtain ⟨v,H',os,bare,un,hok',r',q⟩:=h
    have q':v=.bl true:=q
    subst q'
    obtain rfl:u=Ig true:=r'
    refine ⟨rfl,OldK.of_keep fun b o e=>?_,os,bare⟩
    cases q:H b with
    | none=>exact un.keep b o e q (by intro z; exact absurd (show b∈([]:List Addr) from z) (by simp)) (by simp)
    | some u =>
     rcases hO b with z | ⟨ob,xs,z⟩
     · rw [q] at z; cases z
     · have z2:=un.frzs b ob _ z
       obtain ⟨e1,_⟩:=hok b _ z
       obtain ⟨e2,_⟩:=hok' b _ z2
       rw [e] at e1; cases e1
       exact e2
 cases hk:K.lookup a with
 | some o =>
  have e:=KX a o hk
  rw [ha] at e
  cases e
  refine core (fun _=>none) (fun _=>.inl rfl) (.inr ⟨_,vs.toArray,_,hk,rfl,rfl,rfl,by rw [uk,lenV]; exact hl,by simpa using rv⟩) (fun b u z=>by have z':(none:Option HO)=some u:=z; cases z') (fun b z=>absurd rfl z) fun z=>absurd rfl z
 | none =>
  refine core (fun b=>if b=a then some (.frz { cls:=.type "list",data:=.seq vs.toArray } (.lst (ns.map V.int))) else none) (fun b=>?_) (.inl (.inr ⟨{ cls:=.type "list",data:=.seq vs.toArray },if_pos rfl⟩)) (fun b u z=>?_) (fun b z=>?_) fun _=>hk
  · by_cases hb:b=a
    · exact .inr ⟨_,_,if_pos hb⟩
    · exact .inl (if_neg hb)
  · by_cases hb:b=a
    · have z':=(if_pos hb).symm.trans z
      cases z'
      subst hb
      exact ⟨ha,by rw [HF]; exact hl,vs,_,rv,ha⟩
    · have z':=(if_neg hb).symm.trans z
      cases z'
  · by_cases hb:b=a
    · exact hb
    · exact absurd (if_neg hb) z
theorem walk_of {l:No} {n k:Nat} {q:Program} {loose:List Str} {XP:(Str→Option Value)→Heap→Prop} {YP:D_→Heap→Prop} {d:DefRec} {K:NH→ck} {CX:D_→CXT} {sp:D_→Sp} {x:Str}
 (hn:l.most=some n) (hn2:n≤sizeLine) (hdf:d.params.defaults=[]) (hr:Room k NW)
 (hY:∀ (w:D_) (h:Heap),YP w h→(K w.params).In h)
 (F:∀ (w:D_) (mg:Str→Option Value) (fa:Addr) (h:Heap),(K w.params).In h→h.Ns C_ mg→mg d.name=some (.ref fa) →
   ∃ fd:Iu,(∀ (s:c_) (u:Value),MG s fd ⟨[u],[]⟩ [(x,u)]) ∧
    ∀ base:Heap,(K w.params).In base→base.Ns C_ mg→FnOk l.prog w (K w.params) mg base (CX w) k fa fd [x] (sp w))
 (hsp:∀ (w:D_) (H:Hp) (a:Addr) (ns:List Int),ns.length≤n→D4 H→SqL (K w.params) H a (ns.map V.int)→sp w [.ref a] H (fun v _=>v=.bl true) fun _ _ _=>False)
 (hCX:∀ (w:D_) (H:Hp) (s:c_) (e:Value) (s':c_),CX w [] H s (fun _ _ _=>False) e s'→False) :
 PB q loose XP YP l.row.toRowW d [] (fun f vs=>Pq f vs):=by
 refine Att.attach_call hn hdf fun w s₀ s₁ mg mb fa o pm cd doc a vs ns G Y ho hd hcd hmg hobj hints hlen hg=>?_
 have KX:=hY w _ Y
 obtain ⟨fd,hb,hF⟩:=F w mg fa _ KX G.T.g hmg
 exact tY KX G.T.g G.T.b G.T.builtins G.T.nolimit hg hobj hints (Hm hlen hn2) hr hF hb (fun H hO hS=>hsp w H a ns hlen hO hS) fun H e s'=>hCX w H s₁ e s'
def fP (s:Stmt):Arguments:=match s with
 | .FunctionDef _ a _ _ _ _ _ _ _ _=>a
 | _=>{ posonlyargs:=[],args:=[],vararg:=none,kwonlyargs:=[],kw_defaults:=[],kwarg:=none,defaults:=[] }
def bC (s:Stmt):List Stmt:=match s with
 | .FunctionDef _ _ b _ _ _ _ _ _ _=>b
 | _=>[]
def au (s:Stmt):Scope:=match s with
 | .FunctionDef _ _ _ _ _ _ sc _ _ _=>sc
 | _=>{ kind:=.function,names:=[],isGenerator:=false,isCoroutine:=false }
abbrev CX0:CXT:=fun _ _ _ _ _ _=>False
abbrev E0:XK:=fun _ _ _=>False
theorem D6 {X:Cx}:mR CX0 X E0:=fun _ _ _ _ _ _ _ h=>h.elim
structure Fun (K:ck) (x qual:Str) (st:Stmt) (f:Addr) (fd:Iu):Prop where
 ex:∃ (oc:Value) (od:Option Addr) (kV doc pm:Value) (an:Option Addr) (cdv ct:Value) (osl:Array (Option Value)),
  fd=Kk x qual (fP st) (bC st) (au st) .none kV doc pm an cdv ct∧K.lookup f=some ⟨oc,od,.func fd,osl⟩∧Mm K cdv qual=true
 kp:IE K (.ref f)=true
section
variable {P:Program} {w:D_} {K:ck} {mg:Str→Option Value} {base:Heap}
theorem Fun.ok {x qual:Str} {st:Stmt} {f:Addr} {fd:Iu} {N ps:List Str} {k:Nat} {sp:Sp} (F:Fun K x qual st f fd) (S:dz N ps (au st)) (len:∀ vs H Q E,sp vs H Q E→vs.length=ps.length)
 (hbody:∀ (cdv:Value) (A:w_) (outer:List Env) (s:c_) (H:Hp) (vs:List V) (Q:VK) (E:XK),Room k (A.deeper (Ld qual (au st) s.heap.objs.size f cdv))→sp vs H Q E →
   ∃ t,PSs (mS CX0 P w K mg base N qual (au st) f cdv A outer s H E).nox (bC st) t∧t { nx:=fun _ H'=>Q .non H',rt:=Q } (start N vs) H):FnOk P w K mg base CX0 (k + 1) f fd ps sp:=by
 obtain ⟨oc,od,kV,doc,pm,an,cdv,ct,osl,rfl,lk,hcd⟩:=F.ex
 refine zR lk hcd S len fun A outer s H vs Q E hr hsp=>?_
 obtain ⟨t,h,q⟩:=hbody cdv A outer s H vs Q E hr hsp
 exact ⟨t,h.nox,q⟩
theorem Fun.binds {x qual:Str} {st:Stmt} {f:Addr} {fd:Iu} {ps:List Str} (F:Fun K x qual st f fd)
 (h:∀ (kV doc pm:Value) (an:Option Addr) (cdv ct:Value) (us:List Value),us.length=ps.length→bindArgs (Kk x qual (fP st) (bC st) (au st) .none kV doc pm an cdv ct) ⟨us,[]⟩=pure (ps.zip us)):Binds K fd ps []:=by
 obtain ⟨oc,od,kV,doc,pm,an,cdv,ct,osl,rfl,lk,hcd⟩:=F.ex
 exact .all (h kV doc pm an cdv ct)
theorem zZ {x qual:Str} {st:Stmt} {f:Addr} {oc:Value} {od an:Option Addr} {osl:Array (Option Value)} {kV doc pm cdv ct:Value} (l:K.lookup f=some ⟨oc,od,.func (Kk x qual (fP st) (bC st) (au st) .none kV doc pm an cdv ct),osl⟩)
 (c:Mm K cdv qual=true) (k:IE K (.ref f)=true):Fun K x qual st f (Kk x qual (fP st) (bC st) (au st) .none kV doc pm an cdv ct):=⟨⟨oc,od,kV,doc,pm,an,cdv,ct,osl,rfl,l,c⟩,k⟩
end
section
variable {X:Cx}
end
theorem tZ {A B:Prop} (h:B):if false=true then A else B:=by
 rw [if_neg pi]
 exact h
theorem ua {A B:Prop} (h:A):if true=true then A else B:=by
 rw [if_pos rfl]
 exact h
def Same (H H':Hp):Prop:=∀ b o,H b=some o→H' b=some o
theorem Same.refl (H:Hp):Same H H:=fun _ _ h=>h
theorem Same.trans {H H1 H2:Hp} (a:Same H H1) (b:Same H1 H2):Same H H2:=fun c o h=>b c o (a c o h)
theorem Same.free {H H':Hp} (e:Same H H') {l:Addr} (h:H' l=A_):H l=A_:=by
 cases q:H l with
 | none=>rfl
 | some o =>
  rw [e l o q] at h
  cases h
theorem Same.seq {K:ck} {H H':Hp} {a:Addr} {xs:List V} (e:Same H H') (h:SqL K H a xs):SqL K H' a xs:=by
 rcases h with (h | ⟨o,h⟩) | h
 · exact .inl (.inl (e _ _ h))
 · exact .inl (.inr ⟨o,e _ _ h⟩)
 · exact .inr h
end L2
namespace FD
open PySem PySem.Spec PyProof.Rows L2
inductive Dv where
 | non | bl (b:Bool) | int (i:Int) | str (x:Str) | tup (xs:List Dv) | lst (xs:List Dv) | scr (ns:List Int) | exn (c:Nat)
def xnm:Nat→Str
 | 0=>"NoName" | 1=>"NoTable" | 2=>"NoPath" | 3=>"NoAsk" | 4=>"NoNote" | 5=>"NoJar" | 6=>"NoNumber" | 7=>"NoText" | 8=>"NoStep" | _=>"JarError"
mutual
def Rep (K:ck) (H:Hp):Dv→V→Prop
 | .non,v=>v=.non
 | .bl b,v=>v=.bl b
 | .int i,v=>v=.int i
 | .str x,v=>v=.str x
 | .tup ds,v=>∃ a xs,v=.ref a∧H a=some (.tup xs)∧Reps K H ds xs
 | .lst ds,v=>∃ a xs,v=.ref a∧H a=some (.lst xs)∧Reps K H ds xs
 | .scr ns,v=>∃ a,v=.ref a∧SqL K H a (ns.map V.int)
 | .exn c,v=>∃ a o u C,v=.ref a∧H a=some (.frz o u)∧o.cls=.ref C∧Jp K C_ (xnm c)=some (some (.ref C))
def Reps (K:ck) (H:Hp):List Dv→List V→Prop
 | [],vs=>vs=[]
 | d :: ds,vs=>∃ v us,vs=v :: us∧Rep K H d v∧Reps K H ds us
end
section
variable {K:ck} {H H':Hp}
mutual
theorem Rep.mono (e:Same H H'):∀ (d:Dv) (v:V),Rep K H d v→Rep K H' d v
 | .non,_,h=>h
 | .bl _,_,h=>h
 | .int _,_,h=>h
 | .str _,_,h=>h
 | .tup ds,v,h=>by
  obtain ⟨a,xs,r,h,q⟩:∃ a xs,v=.ref a∧H a=some (.tup xs)∧Reps K H ds xs:=h
  exact ⟨a,xs,r,e _ _ h,Reps.mono e ds xs q⟩
 | .lst ds,v,h=>by
  obtain ⟨a,xs,r,h,q⟩:∃ a xs,v=.ref a∧H a=some (.lst xs)∧Reps K H ds xs:=h
  exact ⟨a,xs,r,e _ _ h,Reps.mono e ds xs q⟩
 | .scr ns,v,h=>by
  obtain ⟨a,r,h⟩:∃ a,v=.ref a∧SqL K H a (ns.map V.int):=h
  exact ⟨a,r,e.seq h⟩
 | .exn c,v,h=>by
  obtain ⟨a,o,u,C,r,h,q⟩:∃ a o u C,v=.ref a∧H a=some (.frz o u)∧o.cls=.ref C∧Jp K C_ (xnm c)=some (some (.ref C)):=h
  exact ⟨a,o,u,C,r,e _ _ h,q⟩
theorem Reps.mono (e:Same H H'):∀ (ds:List Dv) (vs:List V),Reps K H ds vs→Reps K H' ds vs
 | [],_,h=>h
 | d :: ds,vs,h=>by
  obtain ⟨v,us,r,h,q⟩:∃ v us,vs=v :: us∧Rep K H d v∧Reps K H ds us:=h
  exact ⟨v,us,r,Rep.mono e d v h,Reps.mono e ds us q⟩
end
theorem Reps.nil:Reps K H [] []:=rfl
theorem Reps.cons {d ds v vs} (h:Rep K H d v) (t:Reps K H ds vs):Reps K H (d :: ds) (v :: vs):=⟨v,vs,rfl,h,t⟩
theorem Reps.length:∀ {ds:List Dv} {vs:List V},Reps K H ds vs→vs.length=ds.length
 | [],vs,h=>by cases (show vs=[] from h); rfl
 | d :: ds,vs,h=>by
  obtain ⟨v,us,r,_,q⟩:∃ v us,vs=v :: us∧Rep K H d v∧Reps K H ds us:=h
  subst r
  show us.length + 1=ds.length + 1
  rw [Reps.length q]
theorem Reps.get:∀ {ds:List Dv} {vs:List V} {i:Nat} {v:V},Reps K H ds vs→vs[i]?=some v→∃ d,ds[i]?=some d∧Rep K H d v
 | [],vs,i,v,h,e=>by cases (show vs=[] from h); simp at e
 | d :: ds,vs,i,v,h,e=>by
  obtain ⟨v',us,r,h',q⟩:∃ v us,vs=v :: us∧Rep K H d v∧Reps K H ds us:=h
  subst r
  cases i with
  | zero=>simp at e; subst e; exact ⟨d,rfl,h'⟩
  | succ i =>
   obtain ⟨d',e',r'⟩:=Reps.get (i:=i) q (by simpa using e)
   exact ⟨d',by simpa using e',r'⟩
theorem Reps.get':∀ {ds:List Dv} {vs:List V} {i:Nat} {d:Dv},Reps K H ds vs→ds[i]?=some d→∃ v,vs[i]?=some v∧Rep K H d v
 | [],vs,i,v,h,e=>by simp at e
 | d :: ds,vs,i,d0,h,e=>by
  obtain ⟨v',us,r,h',q⟩:∃ v us,vs=v :: us∧Rep K H d v∧Reps K H ds us:=h
  subst r
  cases i with
  | zero=>simp at e; subst e; exact ⟨v',rfl,h'⟩
  | succ i =>
   obtain ⟨d',e',r'⟩:=Reps.get' (i:=i) q (by simpa using e)
   exact ⟨d',by simpa using e',r'⟩
theorem Reps.append:∀ {ds es:List Dv} {vs us:List V},Reps K H ds vs→Reps K H es us→Reps K H (ds ++ es) (vs ++ us)
 | [],es,vs,us,h,q=>by cases (show vs=[] from h); exact q
 | d :: ds,es,vs,us,h,q=>by
  obtain ⟨v',vs',r,h',t⟩:∃ v us,vs=v :: us∧Rep K H d v∧Reps K H ds us:=h
  subst r
  exact ⟨v',vs' ++ us,rfl,h',Reps.append t q⟩
theorem Reps.take:∀ {ds:List Dv} {vs:List V} (n:Nat),Reps K H ds vs→Reps K H (ds.take n) (vs.take n)
 | ds,vs,0,_=>by simp [Reps]
 | [],vs,n + 1,h=>by cases (show vs=[] from h); exact rfl
 | d :: ds,vs,n + 1,h=>by
  obtain ⟨v',vs',r,h',t⟩:∃ v us,vs=v :: us∧Rep K H d v∧Reps K H ds us:=h
  subst r
  exact ⟨v',vs'.take n,rfl,h',Reps.take n t⟩
theorem Reps.drop:∀ {ds:List Dv} {vs:List V} (n:Nat),Reps K H ds vs→Reps K H (ds.drop n) (vs.drop n)
 | ds,vs,0,h=>h
 | [],vs,n + 1,h=>by cases (show vs=[] from h); exact rfl
 | d :: ds,vs,n + 1,h=>by
  obtain ⟨v',vs',r,h',t⟩:∃ v us,vs=v :: us∧Rep K H d v∧Reps K H ds us:=h
  subst r
  exact Reps.drop n t
theorem Rep.lstE {ds:List Dv} {v:V} (h:Rep K H (.lst ds) v):∃ a xs,v=.ref a∧H a=some (.lst xs)∧Reps K H ds xs:=h
theorem Rep.tupE {ds:List Dv} {v:V} (h:Rep K H (.tup ds) v):∃ a xs,v=.ref a∧H a=some (.tup xs)∧Reps K H ds xs:=h
theorem Rep.exnE {c:Nat} {v:V} (h:Rep K H (.exn c) v):∃ a o u C,v=.ref a∧H a=some (.frz o u)∧o.cls=.ref C∧Jp K C_ (xnm c)=some (some (.ref C)):=h
theorem Rep.scrE {ns:List Int} {v:V} (h:Rep K H (.scr ns) v):∃ a,v=.ref a∧SqL K H a (ns.map V.int):=h
end
theorem aq {H:Hp} {p:Addr} (h:H p=none) (o:HO):Same H (upd H p o):=fun b u q=>by rw [al (am q h)]; exact q
abbrev Ev:=List (Option Dv)
structure Envs (K:ck) (H:Hp) (σ:L2.St) (ρ:Ev):Prop where
 len:σ.length=ρ.length
 at':∀ (i:Nat) (d:Dv),ρ[i]?=some (some d)→∃ v,σ[i]?=some (some v)∧Rep K H d v
theorem Envs.mono {K:ck} {H H':Hp} {σ:L2.St} {ρ:Ev} (E:Envs K H σ ρ) (e:Same H H'):Envs K H' σ ρ :=
 ⟨E.len,fun i d h=>let ⟨v,h1,h2⟩:=E.at' i d h; ⟨v,h1,Rep.mono e d v h2⟩⟩
theorem Envs.set {K:ck} {H:Hp} {σ:L2.St} {ρ:Ev} {i:Nat} {d:Dv} {v:V} (E:Envs K H σ ρ) (r:Rep K H d v):Envs K H (σ.set i (some v)) (ρ.set i (some d)):=by
 refine ⟨by rw [HE,HE]; exact E.len,fun j d' h=>?_⟩
 by_cases hj:i=j
 · subst hj
   by_cases hl:i < ρ.length
   · rw [B_ hl] at h
     cases h
     exact ⟨v,by rw [B_ (by rw [E.len]; exact hl)],r⟩
   · rw [Jf (by rw [HE]; omega)] at h
     cases h
 · rw [s_ hj] at h
   rw [s_ hj]
   exact E.at' j d' h
def fgt (js:List Nat) (ρ:Ev):Ev:=js.foldl (fun r j=>r.set j none) ρ
theorem Envs.fgt1 {K:ck} {H:Hp} {σ:L2.St} {ρ:Ev} (j:Nat) (E:Envs K H σ ρ):Envs K H σ (ρ.set j none):=by
 refine ⟨by rw [HE]; exact E.len,fun i d h=>?_⟩
 by_cases hj:j=i
 · subst hj
   by_cases hl:j < ρ.length
   · rw [B_ hl] at h
     cases h
   · rw [Jf (by rw [HE]; omega)] at h
     cases h
 · rw [s_ hj] at h
   exact E.at' i d h
theorem Envs.fgt {K:ck} {H:Hp} {σ:L2.St}:∀ (js:List Nat) {ρ:Ev},Envs K H σ ρ→Envs K H σ (fgt js ρ)
 | [],_,E=>E
 | j :: js,_,E=>Envs.fgt js (E.fgt1 j)
inductive Rs (α:Type) where
 | ok (a:α)
 | exc (c:Nat)
inductive Fl where
 | nx (ρ:Ev)
 | rt (d:Dv)
 | exc (c:Nat)
def Fly (N:Addr→Prop) (H:Hp) (e:Addr) (cls:Value) (h:Heap):Prop:=H e=none∧N e∧∃ oe vs a0,h.get? e=some oe∧oe.cls=cls∧oe.data=.fields vs∧vs[0]?=some a0 ∧
 (vs[1]?=some .none∨∃ T oT ts,vs[1]?=some (.ref T)∧T≠e∧H T=none∧N T∧h.get? T=some oT∧oT.data=.fields ts∧ts[3]?=some .none)
def D7 (X:Cx) (a:Addr):Prop:=X.s₀.heap.get? a=none∧∀ p∈X.pn,p.1≠a
def D8 (X:Cx) (H:Hp) (c:Nat) (e:Value) (s:c_):Prop:=∃ a C,e=.ref a∧Jp X.K C_ (xnm c)=some (some (.ref C))∧Fly (D7 X) H a (.ref C) s.heap
def XW (X:Cx) (c:Nat) (H:Hp):Prop:=∀ pins σ H' s e,Same H H'→Inv X pins σ H' s→D8 X H' c e s→X.xe e s
theorem XW.mono {X:Cx} {c:Nat} {H H':Hp} (h:XW X c H) (e:Same H H'):XW X c H':=fun pins σ H1 s x e1 I q=>h pins σ H1 s x (e.trans e1) I q
def Out (X:Cx) (H:Hp) (o:Option (Rs Dv)) (Q:VK):Prop:=match o with
 | none=>False
 | some (.exc c)=>XW X c H
 | some (.ok d)=>∀ v H',Same H H'→Rep X.K H' d v→Q v H'
def OutB (X:Cx) (H:Hp) (o:Option (Rs Bool)) (Q:Bool→Hp→Prop):Prop:=match o with
 | none=>False
 | some (.exc c)=>XW X c H
 | some (.ok d)=>∀ H',Same H H'→Q d H'
def OutA (X:Cx) (H:Hp) (o:Option (Rs (List Dv))) (Q:List V→Hp→Prop):Prop:=match o with
 | none=>False
 | some (.exc c)=>XW X c H
 | some (.ok ds)=>∀ vs H',Same H H'→Reps X.K H' ds vs→Q vs H'
def OutS (X:Cx) (H:Hp) (o:Option Fl) (D:pH):Prop:=match o with
 | none=>False
 | some (.exc c)=>XW X c H
 | some (.rt d)=>∀ v H',Same H H'→Rep X.K H' d v→D.rt v H'
 | some (.nx ρ)=>∀ σ H',Same H H'→Envs X.K H' σ ρ→D.nx σ H'
def bnd {α β:Type} (o:Option (Rs α)) (k:α→Option (Rs β)):Option (Rs β):=match o with
 | none=>none
 | some (.exc c)=>some (.exc c)
 | some (.ok a)=>k a
def cB {α:Type} (o:Option (Rs α)) (k:α→Option Fl):Option Fl:=match o with
 | none=>none
 | some (.exc c)=>some (.exc c)
 | some (.ok a)=>k a
def sq (o:Option Fl) (k:Ev→Option Fl):Option Fl:=match o with
 | some (.nx ρ)=>k ρ
 | o=>o
section
variable {X:Cx} {H H':Hp} {Q:VK} {QB:Bool→Hp→Prop} {QA:List V→Hp→Prop} {D:pH}
theorem Out.mono (e:Same H H'):∀ {o:Option (Rs Dv)},Out X H o Q→Out X H' o Q
 | none,h=>h
 | some (.exc _),h=>XW.mono h e
 | some (.ok _),h=>fun v H1 e1 r=>h v H1 (e.trans e1) r
theorem OutB.mono (e:Same H H'):∀ {o:Option (Rs Bool)},OutB X H o QB→OutB X H' o QB
 | none,h=>h
 | some (.exc _),h=>XW.mono h e
 | some (.ok _),h=>fun H1 e1=>h H1 (e.trans e1)
theorem OutA.mono (e:Same H H'):∀ {o:Option (Rs (List Dv))},OutA X H o QA→OutA X H' o QA
 | none,h=>h
 | some (.exc _),h=>XW.mono h e
 | some (.ok _),h=>fun v H1 e1 r=>h v H1 (e.trans e1) r
theorem OutS.mono (e:Same H H'):∀ {o:Option Fl},OutS X H o D→OutS X H' o D
 | none,h=>h
 | some (.exc _),h=>XW.mono h e
 | some (.rt _),h=>fun v H1 e1 r=>h v H1 (e.trans e1) r
 | some (.nx _),h=>fun v H1 e1 r=>h v H1 (e.trans e1) r
theorem Out.bind {o:Option (Rs Dv)} {k:Dv→Option (Rs Dv)} {P:VK} (h:Out X H (bnd o k) Q) (hp:∀ d v H',Same H H'→Rep X.K H' d v→Out X H' (k d) Q→P v H'):Out X H o P:=by
 match o,h with
 | some (.exc _),h=>exact h
 | some (.ok d),h=>exact fun v H1 e r=>hp d v H1 e r (Out.mono e h)
theorem Out.bindB {o:Option (Rs Dv)} {k:Dv→Option (Rs Bool)} {P:VK} (h:OutB X H (bnd o k) QB) (hp:∀ d v H',Same H H'→Rep X.K H' d v→OutB X H' (k d) QB→P v H'):Out X H o P:=by
 match o,h with
 | some (.exc _),h=>exact h
 | some (.ok d),h=>exact fun v H1 e r=>hp d v H1 e r (OutB.mono e h)
theorem Out.bindA {o:Option (Rs Dv)} {k:Dv→Option (Rs (List Dv))} {P:VK} (h:OutA X H (bnd o k) QA) (hp:∀ d v H',Same H H'→Rep X.K H' d v→OutA X H' (k d) QA→P v H'):Out X H o P:=by
 match o,h with
 | some (.exc _),h=>exact h
 | some (.ok d),h=>exact fun v H1 e r=>hp d v H1 e r (OutA.mono e h)
theorem Out.bindS {o:Option (Rs Dv)} {k:Dv→Option Fl} {P:VK} (h:OutS X H (cB o k) D) (hp:∀ d v H',Same H H'→Rep X.K H' d v→OutS X H' (k d) D→P v H'):Out X H o P:=by
 match o,h with
 | some (.exc _),h=>exact h
 | some (.ok d),h=>exact fun v H1 e r=>hp d v H1 e r (OutS.mono e h)
theorem OutB.bind {o:Option (Rs Bool)} {k:Bool→Option (Rs Dv)} {P:Bool→Hp→Prop} (h:Out X H (bnd o k) Q) (hp:∀ b H',Same H H'→Out X H' (k b) Q→P b H'):OutB X H o P:=by
 match o,h with
 | some (.exc _),h=>exact h
 | some (.ok d),h=>exact fun H1 e=>hp d H1 e (Out.mono e h)
theorem OutB.bindB {o:Option (Rs Bool)} {k:Bool→Option (Rs Bool)} {P:Bool→Hp→Prop} (h:OutB X H (bnd o k) QB) (hp:∀ b H',Same H H'→OutB X H' (k b) QB→P b H'):OutB X H o P:=by
 match o,h with
 | some (.exc _),h=>exact h
 | some (.ok d),h=>exact fun H1 e=>hp d H1 e (OutB.mono e h)
theorem OutB.bindS {o:Option (Rs Bool)} {k:Bool→Option Fl} {P:Bool→Hp→Prop} (h:OutS X H (cB o k) D) (hp:∀ b H',Same H H'→OutS X H' (k b) D→P b H'):OutB X H o P:=by
 match o,h with
 | some (.exc _),h=>exact h
 | some (.ok d),h=>exact fun H1 e=>hp d H1 e (OutS.mono e h)
theorem OutA.bind {o:Option (Rs (List Dv))} {k:List Dv→Option (Rs Dv)} {P:List V→Hp→Prop} (h:Out X H (bnd o k) Q) (hp:∀ ds vs H',Same H H'→Reps X.K H' ds vs→Out X H' (k ds) Q→P vs H'):OutA X H o P:=by
 match o,h with
 | some (.exc _),h=>exact h
 | some (.ok d),h=>exact fun v H1 e r=>hp d v H1 e r (Out.mono e h)
theorem OutA.bindA {o:Option (Rs (List Dv))} {k:List Dv→Option (Rs (List Dv))} {P:List V→Hp→Prop} (h:OutA X H (bnd o k) QA) (hp:∀ ds vs H',Same H H'→Reps X.K H' ds vs→OutA X H' (k ds) QA→P vs H'):OutA X H o P:=by
 match o,h with
 | some (.exc _),h=>exact h
 | some (.ok d),h=>exact fun v H1 e r=>hp d v H1 e r (OutA.mono e h)
end
abbrev FnE:=Ev→Option (Rs Dv)
abbrev FnB:=Ev→Option (Rs Bool)
abbrev FnA:=Ev→Option (Rs (List Dv))
abbrev FnS:=Ev→Option Fl
def tF (X:Cx) (f:FnE):TE:=fun σ H Q=>∃ ρ,Envs X.K H σ ρ∧Out X H (f ρ) Q
def tT (X:Cx) (f:FnB):TT:=fun σ H Q=>∃ ρ,Envs X.K H σ ρ∧OutB X H (f ρ) Q
def tA (X:Cx) (f:FnA):TA:=fun σ H Q=>∃ ρ,Envs X.K H σ ρ∧OutA X H (f ρ) Q
def tS (X:Cx) (f:FnS):TS:=fun D σ H=>∃ ρ,Envs X.K H σ ρ∧OutS X H (f ρ) D
structure FE (X:Cx) (e:Expr) (f:FnE):Prop where
 h:PE X e (tF X f)
structure FT (X:Cx) (e:Expr) (f:FnB):Prop where
 h:PT X e (tT X f)
structure FW (X:Cx) (e:Expr) (f:FnB):Prop where
 h:PW X e (tT X f)
structure FA (X:Cx) (es:List Expr) (f:FnA):Prop where
 h:PA X es (tA X f)
structure FS (X:Cx) (st:Stmt) (f:FnS):Prop where
 h:PS X st (tS X f)
structure FSs (X:Cx) (st:List Stmt) (f:FnS):Prop where
 h:PSs X st (tS X f)
section
variable {X:Cx} {a b c e:Expr} {es:List Expr} {fa fb fc:FnE} {pos:Pos}
theorem bO {t:TE} {f:FnE} (h:PE X e t) (w:∀ σ H Q ρ,Envs X.K H σ ρ→Out X H (f ρ) Q→t σ H Q):FE X e f :=
 ⟨fun pins s σ H Q I ⟨ρ,E,o⟩=>h pins s σ H Q I (w σ H Q ρ E o)⟩
theorem wO {t:TT} {f:FnB} (h:PT X e t) (w:∀ σ H Q ρ,Envs X.K H σ ρ→OutB X H (f ρ) Q→t σ H Q):FT X e f :=
 ⟨fun pins s σ H Q I ⟨ρ,E,o⟩=>h pins s σ H Q I (w σ H Q ρ E o)⟩
theorem z4 {t:TT} {f:FnB} (h:PW X e t) (w:∀ σ H Q ρ,Envs X.K H σ ρ→OutB X H (f ρ) Q→t σ H Q):FW X e f :=
 ⟨fun wh pins s σ H Q I ⟨ρ,E,o⟩=>h wh pins s σ H Q I (w σ H Q ρ E o)⟩
theorem qg {st:Stmt} {t:TS} {f:FnS} (h:PS X st t) (w:∀ D σ H ρ,Envs X.K H σ ρ→OutS X H (f ρ) D→t D σ H):FS X st f :=
 ⟨fun pins s σ H D I ⟨ρ,E,o⟩=>h pins s σ H D I (w D σ H ρ E o)⟩
theorem vN {st:List Stmt} {t:TS} {f:FnS} (h:PSs X st t) (w:∀ D σ H ρ,Envs X.K H σ ρ→OutS X H (f ρ) D→t D σ H):FSs X st f :=
 ⟨fun pins s σ H D I ⟨ρ,E,o⟩=>h pins s σ H D I (w D σ H ρ E o)⟩
theorem FW.ft {f:FnB} (h:FW X e f):FT X e f:=⟨h.h _⟩
def ac (i:Nat):FnE:=fun ρ=>match ρ[i]? with
 | some (some d)=>some (.ok d)
 | _=>none
def fC (d:Dv):FnE:=fun _=>some (.ok d)
theorem z5 (i:Nat) (h:PE X e (tL i)):FE X e (ac i):=bO h fun σ H Q ρ E o=>by
 unfold ac at o
 split at o
 · rename_i d hd
   obtain ⟨v,h1,h2⟩:=E.at' i d hd
   exact ⟨v,h1,o v H (.refl H) h2⟩
 · exact o.elim
theorem glb {x:Str} (h:X.env.kindOf x=some .globalImplicit):Gl X x:=h
theorem Ea (i:Nat) {x:Str} (hN:X.N[i]?=some x:=by kernel_rfl) (hv:X.env.scope.names.lookup x=some .local:=by kernel_rfl) (hd:(x == ("__debug__":Str))=false:=by kernel_rfl) (hcd:(x == ("__classdict__":Str))=false:=by kernel_rfl):FE X (.Name x pos) (ac i):=z5 i (pN hN (.inl hv) hd hcd)
theorem Eb (i:Nat) {x:Str} (hN:X.N[i]?=some x:=by kernel_rfl) (hv:X.env.scope.names.lookup x=some .cell:=by kernel_rfl) (hd:(x == ("__debug__":Str))=false:=by kernel_rfl) (hcd:(x == ("__classdict__":Str))=false:=by kernel_rfl):FE X (.Name x pos) (ac i):=z5 i (pN hN (.inr (.inl hv)) hd hcd)
theorem ze {d:Dv} {v:V} (h:PE X e (tC v)) (r:∀ K H,Rep K H d v):FE X e (fC d):=bO h fun _ H _ _ _ o=>o v H (.refl H) (r X.K H)
theorem z6 {i j}:FE X (.Constant (.int i) j pos) (fC (.int i)):=ze zz fun _ _=>rfl
theorem Ec {b j}:FE X (.Constant (.bool b) j pos) (fC (.bl b)):=ze DD fun _ _=>rfl
theorem z7 {j}:FE X (.Constant .none j pos) (fC .non):=ze zA fun _ _=>rfl
theorem z8 {x j}:FE X (.Constant (.str x) j pos) (fC (.str x)):=ze zB fun _ _=>rfl
theorem wP {x:Str} {i:Int} {t:Tok} (hg:Gl X x) (hm:X.mg x=some (.int i t)) (hd:(x == ("__debug__":Str))=false:=by kernel_rfl):FE X (.Name x pos) (fC (.int i)):=ze (lC (v:=.int i) hg hm ⟨t,rfl⟩ hd) fun _ _=>rfl
theorem wQ {x:Str} {i:Str} {t:Tok} (hg:Gl X x) (hm:X.mg x=some (.str i t)) (hd:(x == ("__debug__":Str))=false:=by kernel_rfl):FE X (.Name x pos) (fC (.str i)):=ze (lC (v:=.str i) hg hm ⟨t,rfl⟩ hd) fun _ _=>rfl
def f2 (g:Dv→Dv→Option (Rs Dv)) (fa fb:FnE):FnE:=fun ρ=>bnd (fa ρ) fun x=>bnd (fb ρ) fun y=>g x y
def GOp (X:Cx) (r:R2) (g:Dv→Dv→Option (Rs Dv)):Prop:=∀ dx dy x y H Q,Rep X.K H dx x→Rep X.K H dy y→Out X H (g dx dy) Q→r x y H Q
theorem two {r:R2} {g:Dv→Dv→Option (Rs Dv)} (hg:GOp X r g) {σ:L2.St} {H:Hp} {Q:VK} {ρ:Ev} (E:Envs X.K H σ ρ) (o:Out X H (f2 g fa fb ρ) Q):tOp r (tF X fa) (tF X fb) σ H Q :=
 ⟨ρ,E,Out.bind o fun dx x H1 e1 rx o1=>⟨ρ,E.mono e1,Out.bind o1 fun dy y H2 e2 ry o2=>hg dx dy x y H2 Q (Rep.mono e2 dx x rx) ry o2⟩⟩
theorem lH {op:Operator} {r:R2} {g:Dv→Dv→Option (Rs Dv)} (ho:OpR X (Jd op) r) (hg:GOp X r g) (ha:FE X a fa) (hb:FE X b fb):FE X (.BinOp a op b pos) (f2 g fa fb) :=
 bO (DP ho ha.h hb.h) fun _ _ _ _ E o=>two hg E o
theorem iK {op:CmpOp} {r:R2} {g:Dv→Dv→Option (Rs Dv)} (ho:OpR X (Hu op) r) (hg:GOp X r g) (ha:FE X a fa) (hb:FE X b fb) (hm:Hw op b=false):FE X (.Compare a [op] [b] pos) (f2 g fa fb) :=
 bO (wE ho ha.h hb.h hm) fun _ _ _ _ E o=>two hg E o
def toB:Dv→Option (Rs Bool)
 | .bl b=>some (.ok b)
 | _=>none
def fB (f:FnE):FnB:=fun ρ=>bnd (f ρ) toB
theorem mW {H:Hp} {d:Dv} {v:V} {QB:Bool→Hp→Prop} (r:Rep X.K H d v) (o:OutB X H (toB d) QB):∃ k,v=.bl k∧QB k H:=by
 cases d with
 | bl b=>exact ⟨b,r,o H (.refl H)⟩
 | _=>exact o.elim
theorem eZ {op:CmpOp} {r:R2} {g:Dv→Dv→Option (Rs Dv)} (ho:OpR X (Hu op) r) (hg:GOp X r g) (ha:FE X a fa) (hb:FE X b fb) (hm:Hw op b=false):FT X (.Compare a [op] [b] pos) (fB (f2 g fa fb)) :=
 wO (wF ho ha.h hb.h hm) fun σ H Q ρ E o=>by
  show tOp r (tF X fa) (tF X fb) σ H _
  refine two hg E ?_
  exact Out.bindB o fun d v H' e r o'=>mW r o'
theorem z9 (ha:FE X a fa) (he:∀ whole,isTrue a X.env whole=(do let v ← whole; standAt a.pos; Pl [v] (truthy v)):=by intro _; kernel_rfl):FT X a (fB fa) :=
 wO (zE ha.h he) fun σ H Q ρ E o=>⟨ρ,E,Out.bindB o fun d v H' e r o'=>mW r o'⟩
def qh (f g:FnB):FnB:=fun ρ=>bnd (f ρ) fun k=>if k then g ρ else some (.ok false)
def bOr (f g:FnB):FnB:=fun ρ=>bnd (f ρ) fun k=>if k then some (.ok true) else g ρ
def di (f:FnB):FnB:=fun ρ=>bnd (f ρ) fun k=>some (.ok (!k))
variable {ga gb:FnB} {rest:List Expr}
theorem wR (ha:FT X a ga):FW X (.BoolOp .And [a] pos) ga:=⟨wB ha.h⟩
theorem Aa (ha:FT X a ga):FW X (.BoolOp .Or [a] pos) ga:=⟨zF ha.h⟩
theorem vO (ha:FT X a ga) (hb:FW X (.BoolOp .And (b :: rest) pos) gb):FW X (.BoolOp .And (a :: b :: rest) pos) (qh ga gb) :=
 z4 (zG ha.h hb.h) fun σ H Q ρ E o=>⟨ρ,E,OutB.bindB o fun k H1 e o'=>by
  cases k with
  | true=>exact ua ⟨ρ,E.mono e,o'⟩
  | false=>exact tZ (o' H1 (.refl H1))⟩
theorem Ab (ha:FT X a ga) (hb:FW X (.BoolOp .Or (b :: rest) pos) gb):FW X (.BoolOp .Or (a :: b :: rest) pos) (bOr ga gb) :=
 z4 (DE ha.h hb.h) fun σ H Q ρ E o=>⟨ρ,E,OutB.bindB o fun k H1 e o'=>by
  cases k with
  | true=>exact ua (o' H1 (.refl H1))
  | false=>exact tZ ⟨ρ,E.mono e,o'⟩⟩
theorem Ac (ha:FT X a ga):FT X (.UnaryOp .Not a pos) (di ga) :=
 wO (zH ha.h) fun σ H Q ρ E o=>⟨ρ,E,OutB.bindB o fun k H1 e o'=>o' H1 (.refl H1)⟩
def gw (f g:FnE):FnE:=fun ρ=>bnd (f ρ) fun x=>bnd (toB x) fun k=>if k then g ρ else some (.ok (.bl false))
def vOr (f g:FnE):FnE:=fun ρ=>bnd (f ρ) fun x=>bnd (toB x) fun k=>if k then some (.ok (.bl true)) else g ρ
def oO (f:FnE):FnE:=fun ρ=>bnd (f ρ) fun x=>bnd (toB x) fun k=>some (.ok (.bl (!k)))
theorem lI {H:Hp} {d:Dv} {v:V} {k:Bool→Option (Rs Dv)} {Q:VK} (r:Rep X.K H d v) (o:Out X H (bnd (toB d) k) Q):∃ b,v=.bl b∧Out X H (k b) Q:=by
 cases d with
 | bl b=>exact ⟨b,r,o⟩
 | _=>exact o.elim
theorem Ad {op} (ha:FE X a fa):FE X (.BoolOp op [a] pos) fa:=⟨zI ha.h⟩
theorem Ae (ha:FE X a fa) (hb:FE X (.BoolOp .And (b :: rest) pos) fb):FE X (.BoolOp .And (a :: b :: rest) pos) (gw fa fb) :=
 bO (zJ ha.h hb.h) fun σ H Q ρ E o=>⟨ρ,E,Out.bind o fun d v H1 e r o'=>by
  obtain ⟨k,rfl,o2⟩:=lI r o'
  refine ⟨k,rfl,?_⟩
  cases k with
  | true=>exact ua ⟨ρ,E.mono e,o2⟩
  | false=>exact tZ (o2 (.bl false) H1 (.refl H1) rfl)⟩
theorem Ed (ha:FE X a fa) (hb:FE X (.BoolOp .Or (b :: rest) pos) fb):FE X (.BoolOp .Or (a :: b :: rest) pos) (vOr fa fb) :=
 bO (DH ha.h hb.h) fun σ H Q ρ E o=>⟨ρ,E,Out.bind o fun d v H1 e r o'=>by
  obtain ⟨k,rfl,o2⟩:=lI r o'
  refine ⟨k,rfl,?_⟩
  cases k with
  | true=>exact ua (o2 (.bl true) H1 (.refl H1) rfl)
  | false=>exact tZ ⟨ρ,E.mono e,o2⟩⟩
theorem Ag (ha:FE X a fa):FE X (.UnaryOp .Not a pos) (oO fa) :=
 bO (zK ha.h) fun σ H Q ρ E o=>⟨ρ,E,Out.bind o fun d v H1 e r o'=>by
  obtain ⟨k,rfl,o2⟩:=lI r o'
  exact ⟨k,rfl,o2 (.bl (!k)) H1 (.refl H1) rfl⟩⟩
def fIf (c:FnB) (f g:FnE):FnE:=fun ρ=>bnd (c ρ) fun k=>if k then f ρ else g ρ
theorem Ee (hc:FT X c ga) (ha:FE X a fa) (hb:FE X b fb):FE X (.IfExp c a b pos) (fIf ga fa fb) :=
 bO (tM hc.h ha.h hb.h) fun σ H Q ρ E o=>⟨ρ,E,OutB.bind o fun k H1 e o'=>by
  cases k with
  | true=>exact ua ⟨ρ,E.mono e,o'⟩
  | false=>exact tZ ⟨ρ,E.mono e,o'⟩⟩
def ah:FnA:=fun _=>some (.ok [])
def aa (f:FnE) (g:FnA):FnA:=fun ρ=>bnd (f ρ) fun x=>bnd (g ρ) fun xs=>some (.ok (x :: xs))
theorem Ah {t:TA} {f:FnA} (h:PA X es t) (w:∀ σ H Q ρ,Envs X.K H σ ρ→OutA X H (f ρ) Q→t σ H Q):FA X es f :=
 ⟨fun pos pins s σ H Q I ⟨ρ,E,o⟩=>h pos pins s σ H Q I (w σ H Q ρ E o)⟩
theorem iL:FA X [] ah:=Ah mQ fun _ H _ _ _ o=>o [] H (.refl H) rfl
theorem gU {g:FnA} (ha:FE X e fa) (hr:FA X es g) (hs:f_ (e :: es) X.env=(false,eval e X.env) :: f_ es X.env:=by kernel_rfl):FA X (e :: es) (aa fa g) :=
 Ah (ez ha.h hr.h hs) fun σ H Q ρ E o=>⟨ρ,E,Out.bindA o fun d v H1 e r o1=>⟨ρ,E.mono e,OutA.bindA o1 fun ds vs H2 e2 rs o2=>o2 (v :: vs) H2 (.refl H2) ⟨v,vs,rfl,Rep.mono e2 d v r,rs⟩⟩⟩
def cM (g:FnA):FnE:=fun ρ=>bnd (g ρ) fun ds=>if ds.length≤100000 then some (.ok (.lst ds)) else none
def cD (g:FnA):FnE:=fun ρ=>bnd (g ρ) fun ds=>if ds.length≤100000 then some (.ok (.tup ds)) else none
theorem ba {n:Nat} (h:n≤100000):n≤sizeLine:=Hm h (by rw [LV]; decide)
theorem Ai {g:FnA} (h:FA X es g):FE X (.List es pos) (cM g) :=
 bO (p8 h.h) fun σ H Q ρ E o=>⟨ρ,E,OutA.bind o fun ds vs H1 e rs o1=>by
  split at o1
  · rename_i hl
    refine ⟨by rw [rs.length]; exact ba hl,fun p hp=>o1 (.ref p) _ (aq hp _) ⟨p,vs,rfl,ak,Reps.mono (aq hp _) _ _ rs⟩⟩
  · exact o1.elim⟩
theorem Aj {g:FnA} {k} (h:FA X es g):FE X (.Tuple es k pos) (cD g) :=
 bO (zP h.h) fun σ H Q ρ E o=>⟨ρ,E,OutA.bind o fun ds vs H1 e rs o1=>by
  split at o1
  · rename_i hl
    refine ⟨by rw [rs.length]; exact ba hl,fun p hp=>o1 (.ref p) _ (aq hp _) ⟨p,vs,rfl,ak,Reps.mono (aq hp _) _ _ rs⟩⟩
  · exact o1.elim⟩
variable {st:Stmt} {sts:List Stmt} {f g:FnS}
theorem wS:FSs X [] (fun ρ=>some (.nx ρ)):=vN lD fun D σ H ρ E o=>o σ H (.refl H) E
def aE (f g:FnS):FnS:=fun ρ=>sq (f ρ) g
theorem ub (h1:FS X st f) (h2:FSs X sts g):FSs X (st :: sts) (aE f g) :=
 vN (c6 h1.h h2.h) fun D σ H ρ E o=>⟨ρ,E,by
  unfold aE at o
  match hf:f ρ with
  | none=>rw [hf] at o; exact o.elim
  | some (.exc c)=>rw [hf] at o; exact o
  | some (.rt d)=>rw [hf] at o; exact o
  | some (.nx ρ')=>rw [hf] at o; exact fun σ' H' e E'=>⟨ρ',E',OutS.mono e o⟩⟩
theorem lJ (h1:FS X st f):FSs X [st] f:=⟨gJ h1.h⟩
def aI (f:FnE):FnS:=fun ρ=>cB (f ρ) fun d=>some (.rt d)
theorem qi (he:FE X e fa):FS X (.Return (some e) pos) (aI fa) :=
 qg (vJ he.h) fun D σ H ρ E o=>⟨ρ,E,Out.bindS o fun d v H1 e r o1=>o1 v H1 (.refl H1) r⟩
def cC (f:FnE):FnS:=fun ρ=>cB (f ρ) fun _=>some (.nx ρ)
theorem wT (he:FE X e fa) (hs:HR e none pos.line X.env=pure false:=by kernel_rfl):FS X (.Expr e pos) (cC fa) :=
 qg (jl he.h hs) fun D σ H ρ E o=>⟨ρ,E,Out.bindS o fun d v H1 e r o1=>o1 σ H1 (.refl H1) (E.mono e)⟩
def bn (i:Nat) (f:FnE):FnS:=fun ρ=>cB (f ρ) fun d=>some (.nx (ρ.set i (some d)))
theorem Ak (i:Nat) {x:Str} {pos':Pos} (hN:X.N.Nodup) (hi:X.N[i]?=some x) (hx:Loc X.env.scope x) (he:FE X e fa) (hs:HR e (some (.Name x pos')) pos.line X.env=pure false:=by kernel_rfl) (hf:X.fn x=true∨X.env.scope.names.lookup x=some .local:=by first | exact .inl rfl | exact .inr rfl | assumption) :
 FS X (.Assign [.Name x pos'] e pos) (bn i fa) :=
 qg (gL hN hi hx he.h hs hf) fun D σ H ρ E o=>⟨ρ,E,Out.bindS o fun d v H1 e r o1=>o1 _ H1 (.refl H1) ((E.mono e).set r)⟩
def bP (c:FnB) (f g:FnS):FnS:=fun ρ=>cB (c ρ) fun k=>if k then f ρ else g ρ
theorem Ef {as bs:List Stmt} (hc:FT X c ga) (ha:FSs X as f) (hb:FSs X bs g):FS X (.If c as bs pos) (bP ga f g) :=
 qg (wC hc.h ha.h hb.h) fun D σ H ρ E o=>⟨ρ,E,OutB.bindS o fun k H1 e o1=>by
  cases k with
  | true=>exact ua ⟨ρ,E.mono e,o1⟩
  | false=>exact tZ ⟨ρ,E.mono e,o1⟩⟩
end
def Its (z:Str):It:=⟨fun i _=>i < z.cps.size,fun i H x H'=>H'=H∧∃ c,z.cps[i]?=some c∧x=.str ⟨#[c]⟩,fun i _=>i=z.cps.size⟩
theorem ki {prog:Program} {w:D_} {A:w_} (hh:A.handled=none) (I:Addr) (x:Str) (t:Tok) {ty:String} (hty:ty="str_ascii_iterator"∨ty="str_iterator") :
 Walks prog w A I [I] [I] x.cps.size (SignAt x) (fun i h=>h.IsStrIter I ty x t i):=by
 rcases hty with rfl | rfl
 · exact Walks.strAscii hh I x t
 · exact Walks.strWide hh I x t
theorem uc {P:Program} {w:D_} {K:ck} {tg:Expr} (z:Str) (t:Tok) (it:Addr) {ty:String} (hty:ty="str_ascii_iterator"∨ty="str_iterator"):tQ P w K tg (Its z) [it] it (fun i h=>h.IsStrIter it ty z t i) where
 mem:=by simp
 obj:=fun i h st b hb=>by
  have e:b=it:=by simpa using hb
  subst e
  obtain ⟨o,e,c,d⟩:=st
  exact ⟨o,e,fun v z=>by rw [d] at z; cases z⟩
 keep:=fun i h h' st k=>let ⟨o,ho,r⟩:=st; ⟨o,k it (by simp) o ho,r⟩
 item:=by
  intro X hP hw hK hc i pins s σ H E I hf st hg
  subst hP hw hK
  obtain ⟨f0,f1,f2,f3,f4,f5⟩:=hf it (by simp)
  have W:=ki (prog:=X.prog) (w:=X.w) (I.ok.hd hc) it z t hty
  refine W.item i s _ _ hg st fun v h' tk hv st' kk=>?_
  obtain ⟨c,u,hc',rfl⟩:=hv
  have I1:Inv X pins σ H { s with heap:=h',toks:=tk }:=I.turned (fun b o hb e=>kk b o (by simpa using hb) e) f0 f1 f3 f4 f5
  obtain ⟨o,e,c',d⟩:=id st'
  refine ⟨_,rfl,tR (s:={ s with heap:=h',toks:=tk }) e c' d (by rcases hty with rfl | rfl <;> decide) ⟨.str ⟨#[c]⟩,H,I1,⟨u,rfl⟩,⟨rfl,c,hc',rfl⟩,st',fun b hb=>(hf b hb).1⟩⟩
 done:=by
  intro X hP hw hK hc i pins s σ H E I hf st hg
  subst hP hw hK
  obtain ⟨f0,f1,f2,f3,f4,f5⟩:=hf it (by simp)
  have W:=ki (prog:=X.prog) (w:=X.w) (I.ok.hd hc) it z t hty
  have hg':i=z.cps.size:=hg
  subst hg'
  exact W.done s _ _ st fun h' tk kk=>⟨rfl,I.turned (fun b o hb e=>kk b o (by simpa using hb) e) f0 f1 f3 f4 f5⟩
 self:=fun A i s Q E st h=>by
  rcases hty with rfl | rfl
  · exact wpAny_pyIter_striter_ascii st h
  · exact wpAny_pyIter_striter_wide st h
structure Wk (K:ck) (J:It) (ds:List Dv) (H0:Hp):Prop where
 go:∀ i H,Same H0 H→i < ds.length→J.go i H
 stop:∀ H,Same H0 H→J.stop ds.length H
 yld:∀ i H x H',Same H0 H→i < ds.length→J.yld i H x H'→H'=H∧∃ d,ds[i]?=some d∧Rep K H d x
def OutI (X:Cx) (H:Hp) (o:Option (Rs (List Dv))) (R:It→Hp→Prop):Prop:=match o with
 | none=>False
 | some (.exc c)=>XW X c H
 | some (.ok ds)=>∀ J H',Same H H'→Wk X.K J ds H'→R J H'
structure FI (X:Cx) (tg iter:Expr) (f:FnA):Prop where
 h:PI X tg iter fun σ H R=>∃ ρ,Envs X.K H σ ρ∧OutI X H (f ρ) R
theorem OutI.mono {X:Cx} {H H':Hp} {R:It→Hp→Prop} (e:Same H H'):∀ {o:Option (Rs (List Dv))},OutI X H o R→OutI X H' o R
 | none,h=>h
 | some (.exc _),h=>XW.mono h e
 | some (.ok _),h=>fun v H1 e1 r=>h v H1 (e.trans e1) r
def signs (z:Str):List Dv:=z.cps.toList.map fun c=>.str ⟨#[c]⟩
def items:Dv→Option (Rs (List Dv))
 | .lst ds=>some (.ok ds)
 | .tup ds=>some (.ok ds)
 | .str z=>some (.ok (signs z))
 | _=>none
def bZ (f:FnE):FnA:=fun ρ=>bnd (f ρ) items
theorem wU {K:ck} {H:Hp} {a:Addr} {xs:List V} {ds:List Dv} (h:H a=some (.lst xs)) (r:Reps K H ds xs):Wk K (Itl K a) ds H where
 go:=fun i H' e hi=>by
  have hx:i < xs.length:=by rw [r.length]; exact hi
  exact ⟨xs,xs[i],SqL.of (e _ _ h),by simp [hx]⟩
 stop:=fun H' e=>⟨xs,SqL.of (e _ _ h),by rw [r.length]; exact n_ _⟩
 yld:=fun i H' x H2 e hi y=>by
  obtain ⟨e2,y⟩:=y
  obtain ⟨d,h1,h2⟩:=Reps.get (Reps.mono e _ _ r) (y xs (SqL.of (e _ _ h)))
  exact ⟨e2,d,h1,h2⟩
theorem Al {K:ck} {H:Hp} {a:Addr} {xs:List V} {ds:List Dv} (h:H a=some (.tup xs)) (r:Reps K H ds xs):Wk K (Itt K a) ds H where
 go:=fun i H' e hi=>by
  have hx:i < xs.length:=by rw [r.length]; exact hi
  exact ⟨xs,xs[i],SqT.of (e _ _ h),by simp [hx]⟩
 stop:=fun H' e=>⟨xs,SqT.of (e _ _ h),by rw [r.length]; exact n_ _⟩
 yld:=fun i H' x H2 e hi y=>by
  obtain ⟨e2,y⟩:=y
  obtain ⟨d,h1,h2⟩:=Reps.get (Reps.mono e _ _ r) (y xs (SqT.of (e _ _ h)))
  exact ⟨e2,d,h1,h2⟩
theorem Am {K:ck} {H:Hp} {z:Str}:Wk K (Its z) (signs z) H where
 go:=fun i H' e hi=>by show i < z.cps.size; simpa [signs] using hi
 stop:=fun H' e=>by show (signs z).length=z.cps.size; simp [signs]
 yld:=fun i H' x H2 e hi y=>by
  obtain ⟨e2,c,hc,rfl⟩:=y
  refine ⟨e2,.str ⟨#[c]⟩,?_,rfl⟩
  have hc':z.cps.toList[i]?=some c:=by simpa using hc
  rw [signs,Hz,hc'] <;> rfl
def rng (lo:Int):Nat→List Dv
 | 0=>[]
 | n + 1=>.int lo :: rng (lo + 1) n
theorem dN:∀ (n:Nat) (lo:Int),(rng lo n).length=n
 | 0,_=>rfl
 | n + 1,lo=>by show (rng (lo + 1) n).length + 1=n + 1; rw [dN]
theorem qj:∀ (n:Nat) (lo:Int) (i:Nat),i < n→(rng lo n)[i]?=some (.int (lo + i))
 | 0,_,_,h=>by omega
 | n + 1,lo,0,_=>by simp [rng]
 | n + 1,lo,i + 1,h=>by
  have q:=qj n (lo + 1) i (by omega)
  show (Dv.int lo :: rng (lo + 1) n)[i + 1]?=_
  rw [Lk,q]
  congr 2
  omega
theorem mX {K:ck} {H:Hp} {lo:Int} {n:Nat}:Wk K (Itr lo n) (rng lo n) H where
 go:=fun i H' e hi=>by rw [dN] at hi; exact hi
 stop:=fun H' e=>by show n≤(rng lo n).length; rw [dN]; exact n_ _
 yld:=fun i H' x H2 e hi y=>by
  obtain ⟨e2,rfl⟩:=y
  rw [dN] at hi
  exact ⟨e2,_,qj n lo i hi,rfl⟩
section
variable {X:Cx} {tg l a b:Expr} {fl:FnE} {pos p:Pos}
theorem An (hl:FE X l fl):FI X tg l (bZ fl):=by
 constructor
 intro pins s σ H R I h
 obtain ⟨ρ,E,o⟩:=h
 have key:Out X H (fl ρ) fun x H1=>∃ d,Rep X.K H1 d x∧OutI X H1 (items d) R:=by
  unfold bZ at o
  match hf:fl ρ,o with
  | some (.exc c),o=>exact o
  | some (.ok d),o=>exact fun v H1 e r=>⟨d,r,OutI.mono e o⟩
  | none,o=>exact o
 refine thn (hl.h pins s σ H _ I ⟨ρ,E,key⟩) fun v s1 ⟨x,H1,I1,r1,d,rd,q⟩=>?_
 have fin:∀ (o:Obj) (tn:Nat→Heap→Prop) (J:It) (ds:List Dv),tQ X.prog X.w X.K tg J [s1.heap.objs.size] s1.heap.objs.size tn→tn 0 (s1.heap.push o)→Wk X.K J ds H1→(∀ J H',Same H1 H'→Wk X.K J ds H'→R J H') →
  PIE X pins σ tg R (.ref s1.heap.objs.size) { s1 with heap:=s1.heap.push o }:=fun o tn J ds T t0 w q=>by
  refine ⟨s1.heap.objs.size,[s1.heap.objs.size],tn,J,H1,rfl,I1.kept (t':=s1.toks) fun b o e=>e_ _ e,T,t0,fun b hb=>?_,q J H1 (.refl H1) w⟩
  have e:b=s1.heap.objs.size:=by simpa using hb
  subst e
  exact I1.fpOk (n_ _) (I1.hok.fresh (n_ _))
 cases d with
 | lst ds =>
  obtain ⟨a,xs,rfl,h1,h2⟩:=rd.lstE
  cases r1
  obtain ⟨its,rv,p,hz⟩:=I1.list (SqL.of h1)
  exact Lo p.isList (fin _ _ (Itl X.K a) ds (pQ a _) ⟨_,i_ _ rfl,rfl,rfl⟩ (wU h1 h2) q)
 | tup ds =>
  obtain ⟨a,xs,rfl,h1,h2⟩:=rd.tupE
  cases r1
  obtain ⟨its,rv,p,hz⟩:=I1.tuple (SqT.of h1)
  exact La (show s1.heap.IsTuple a its.toArray from p) (fin _ _ (Itt X.K a) ds (oI a _) ⟨_,i_ _ rfl,rfl,rfl⟩ (Al h1 h2) q)
 | str z =>
  cases (show x=.str z from rd)
  obtain ⟨t,rfl⟩:=r1
  have hty:Pb z="str_ascii_iterator"∨Pb z="str_iterator":=by
   unfold Pb
   split
   · exact .inl rfl
   · exact .inr rfl
  exact wpAny_pyIter_strU (fin _ _ (Its z) (signs z) (uc z t _ hty) ⟨_,i_ _ rfl,rfl,rfl⟩ Am q)
 | _=>exact q.elim
def gy:List Dv→Option (Rs (List Dv))
 | [.int j]=>if -(2 ^ 62)≤j∧j < 2 ^ 62 then some (.ok (rng 0 j.toNat)) else none
 | _=>none
def tE:List Dv→Option (Rs (List Dv))
 | [.int i,.int j]=>if -(2 ^ 62)≤i∧i < 2 ^ 62∧-(2 ^ 62)≤j∧j < 2 ^ 62 then some (.ok (rng i (j - i).toNat)) else none
 | _=>none
theorem iM {H:Hp} {R:It→Hp→Prop} {o:Option (Rs (List Dv))} {k:List Dv→Option (Rs (List Dv))} {P:List V→Hp→Prop} (h:OutI X H (bnd o k) R) (hp:∀ ds vs H',Same H H'→Reps X.K H' ds vs→OutI X H' (k ds) R→P vs H'):OutA X H o P:=by
 match o,h with
 | some (.exc _),h=>exact h
 | some (.ok d),h=>exact fun v H1 e r=>hp d v H1 e r (OutI.mono e h)
theorem qk {ga:FnA} (hg:Gl X "range") (hm:X.mg "range"=none) (ha:FA X [a] ga) (hs:f_ [a] X.env=[(false,eval a X.env)]:=by kernel_rfl):FI X tg (.Call (.Name "range" p) [a] [] pos) (fun ρ=>bnd (ga ρ) gy):=by
 constructor
 intro pins s σ H R I h
 obtain ⟨ρ,E,o⟩:=h
 refine pR hg hm ha.h hs pins s σ H R I ⟨ρ,E,iM o fun ds vs H' e rs o1=>?_⟩
 unfold gy at o1
 split at o1
 · rename_i j
   split at o1
   · rename_i hj
     obtain ⟨v,us,rfl,r,t⟩:∃ v us,vs=v :: us∧Rep X.K H' (.int j) v∧Reps X.K H' [] us:=rs
     cases (show us=[] from t)
     cases (show v=.int j from r)
     exact ⟨j,rfl,hj.1,hj.2,o1 _ H' (.refl H') mX⟩
   · exact o1.elim
 · exact o1.elim
theorem ql {ga:FnA} (hg:Gl X "range") (hm:X.mg "range"=none) (ha:FA X [a,b] ga) (hs:f_ [a,b] X.env=[(false,eval a X.env),(false,eval b X.env)]:=by kernel_rfl) (hs2:f_ [b] X.env=[(false,eval b X.env)]:=by kernel_rfl) :
 FI X tg (.Call (.Name "range" p) [a,b] [] pos) (fun ρ=>bnd (ga ρ) tE):=by
 constructor
 intro pins s σ H R I h
 obtain ⟨ρ,E,o⟩:=h
 refine pS hg hm ha.h hs hs2 pins s σ H R I ⟨ρ,E,iM o fun ds vs H' e rs o1=>?_⟩
 unfold tE at o1
 split at o1
 · rename_i i j
   split at o1
   · rename_i hj
     obtain ⟨v,us,rfl,r,t⟩:∃ v us,vs=v :: us∧Rep X.K H' (.int i) v∧Reps X.K H' [.int j] us:=rs
     obtain ⟨v2,us2,rfl,r2,t2⟩:∃ v us',us=v :: us'∧Rep X.K H' (.int j) v∧Reps X.K H' [] us':=t
     cases (show us2=[] from t2)
     cases (show v=.int i from r)
     cases (show v2=.int j from r2)
     exact ⟨i,j,rfl,hj,o1 _ H' (.refl H') mX⟩
   · exact o1.elim
 · exact o1.elim
end
def dU (i:Nat) (js:List Nat) (body:FnS):List Dv→Ev→Option Fl
 | [],ρ=>some (.nx (fgt js ρ))
 | d :: ds,ρ=>match body ((fgt js ρ).set i (some d)) with
  | some (.nx ρ')=>dU i js body ds ρ'
  | o=>o
def oP (i:Nat) (js:List Nat) (src:FnA) (body:FnS):FnS:=fun ρ=>cB (src ρ) fun ds=>dU i js body ds ρ
theorem fg {α:Type} {ds:List α} {i:Nat} {d:α} (h:ds[i]?=some d):ds.drop i=d :: ds.drop (i + 1):=by
 obtain ⟨hi,e⟩:=v_.mp h
 rw [List.drop_eq_getElem_cons hi,e]
theorem Ao {X:Cx} {tg iter:Expr} {body:List Stmt} {pos:Pos} {src:FnA} {fb:FnS} (i:Nat) (js:List Nat) (hp:Li (p_ X.prog X.w) X.A X.env X.xe) (hc:X.calm=true) (hi:FI X tg iter src) (hg:PG X tg (gK i)) (hb:FSs X body fb)
 (hs:∀ x,Hr iter X.env x=pure x:=by intro _; kernel_rfl):FS X (.For tg iter body [] pos) (oP i js src fb):=by
 refine qg (pU hp hc hi.h hg hb.h hs) fun D σ H ρ E o=>⟨ρ,E,?_⟩
 unfold oP at o
 match hf:src ρ,o with
 | none,o=>exact o
 | some (.exc c),o=>exact o
 | some (.ok ds),o =>
  intro J H1 e1 wk
  have o1:OutS X H1 (dU i js fb ds ρ) D:=OutS.mono e1 o
  refine ⟨fun n m σ' H'=>m=ds.length - n∧n≤ds.length∧Same H1 H'∧∃ ρ',Envs X.K H' σ' ρ'∧OutS X H' (dU i js fb (ds.drop n) ρ') D,⟨ds.length,by simp,Hq _,.refl H1,ρ,E.mono e1,by simpa using o1⟩,?_⟩
  rintro n m σ' H' ⟨rfl,hn,e2,ρ',E',o'⟩
  by_cases hlt:n < ds.length
  · refine .inr ⟨wk.go n H' e2 hlt,fun σ2 H2=>Same H1 H2∧∃ ρ2,Envs X.K H2 σ2 ρ2∧OutS X H2 (dU i js fb (ds.drop (n + 1)) ρ2) D,fun σ2 H2 ⟨e3,ρ2,E2,o2⟩=>⟨ds.length - (n + 1),by omega,rfl,hlt,e3,ρ2,E2,o2⟩,fun x H2 y=>?_⟩
    obtain ⟨rfl,d,hd,rd⟩:=wk.yld n H' x H2 e2 hlt y
    rw [fg hd] at o'
    show tS X fb _ _ _
    refine ⟨(fgt js ρ').set i (some d),(Envs.fgt js E').set rd,?_⟩
    unfold dU at o'
    match hb':fb ((fgt js ρ').set i (some d)) with
    | none=>rw [hb'] at o'; exact o'
    | some (.exc c)=>rw [hb'] at o'; exact o'
    | some (.rt r)=>rw [hb'] at o'; exact o'
    | some (.nx ρ2)=>rw [hb'] at o'; exact fun σ2 H3 e3 E3=>⟨e2.trans e3,ρ2,E3,OutS.mono e3 o'⟩
  · have hn':n=ds.length:=by omega
    subst hn'
    rw [LN] at o'
    exact .inl ⟨wk.stop H' e2,o' σ' H' (.refl H') (Envs.fgt js E')⟩
def spF (K:ck) (F:List Dv→Option (Rs Dv)) (n:Nat):Sp:=fun vs H Q _=>∃ ds,Reps K H ds vs∧ds.length=n∧match F ds with
 | some (.ok d)=>∀ v H',Same H H'→Rep K H' d v→Q v H'
 | _=>False
def ai (F:List Dv→Option (Rs Dv)) (n:Nat) (g:FnA):FnE:=fun ρ=>bnd (g ρ) fun ds=>if ds.length=n then (match F ds with | some (.ok d)=>some (.ok d) | _=>none) else none
section
variable {X:Cx} {k n:Nat} {f:Addr} {fd:Iu} {ps:List Str} {x:Str} {p pos:Pos} {e:Expr} {es:List Expr} {F:List Dv→Option (Rs Dv)} {g:FnA}
theorem wV (G:FnOk X.prog X.w X.K X.mg X.base CX0 k f fd ps (spF X.K F n)) (hr:Room k X.A) (hg:Gl X x) (hm:X.mg x=some (.ref f)) (hk:IE X.K (.ref f)=true) (hb:Binds X.K fd ps [])
 (ha:FA X (e :: es) g) (hdb:(x == ("__debug__":Str))=false:=by kernel_rfl) (he:f_ (e :: es) X.env=(false,eval e X.env) :: f_ es X.env:=by kernel_rfl) (hpl:(Ho pos (f_ es X.env)).any (·.1)=false:=by kernel_rfl) :
 FE X (.Call (.Name x p) (e :: es) [] pos) (ai F n g) :=
 bO (p9 G hr hg hm hk hb .nil D6 ha.h hdb he hpl) fun σ H Q ρ E o=>⟨ρ,E,OutA.bind o fun ds vs H' e rs o1=>by
  show spF X.K F n (vs ++ []) H' Q E0
  rw [JF]
  split at o1
  · rename_i hl
    refine ⟨ds,rs,hl,?_⟩
    match hF:F ds with
    | some (.ok d)=>rw [hF] at o1; exact o1
    | some (.exc c)=>rw [hF] at o1; exact o1
    | none=>rw [hF] at o1; exact o1
  · exact o1.elim⟩
def Has (P:Program) (w:D_) (K:ck) (mg:Str→Option Value) (base:Heap) (x:Str) (k:Nat) (ps:List Str) (F:List Dv→Option (Rs Dv)):Prop :=
 ∃ f fd,FnOk P w K mg base CX0 k f fd ps (spF K F ps.length)∧mg x=some (.ref f)∧IE K (.ref f)=true∧Binds K fd ps []
theorem ud {k':Nat} (k:Nat) (ps:List Str) (F:List Dv→Option (Rs Dv)) (h:Has X.prog X.w X.K X.mg X.base x k ps F) (hr:Room k' X.A) (hk:k≤k') (hg:Gl X x) (ha:FA X (e :: es) g) (hn:n=ps.length:=by kernel_rfl) (hdb:(x == ("__debug__":Str))=false:=by kernel_rfl)
 (he:f_ (e :: es) X.env=(false,eval e X.env) :: f_ es X.env:=by kernel_rfl) (hpl:(Ho pos (f_ es X.env)).any (·.1)=false:=by kernel_rfl) :
 FE X (.Call (.Name x p) (e :: es) [] pos) (ai F n g):=by
 subst hn
 obtain ⟨f,fd,G,hm,hkp,hb⟩:=h
 exact wV (G.mono hk) hr hg hm hkp hb ha hdb he hpl
def bg (m:Nat) (fb:FnS):List Dv→Option (Rs Dv):=fun ds=>match fb (ds.map some ++ q_ (m - ds.length) none) with
 | some (.nx _)=>some (.ok .non)
 | some (.rt d)=>some (.ok d)
 | _=>none
theorem fQ {K:ck} {H:Hp} {N:List Str} {ds:List Dv} {vs:List V} (r:Reps K H ds vs):Envs K H (L2.start N vs) (ds.map some ++ q_ (N.length - ds.length) none):=by
 have hl:=r.length
 refine ⟨by unfold L2.start; rw [II,II,HF,HF,Jy,Jy,hl],fun i d h=>?_⟩
 by_cases hi:i < ds.length
 · rw [JB (by simpa using hi),Hz] at h
   cases hd:ds[i]? with
   | none=>rw [hd] at h; cases h
   | some d' =>
    rw [hd] at h
    have h':some (some d')=some (some d):=h
    injection h' with h'
    injection h' with h'
    subst h'
    obtain ⟨v,h1,h2⟩:=r.get' hd
    refine ⟨v,?_,h2⟩
    unfold L2.start
    rw [JB (by rw [HF,hl]; exact hi),Hz,h1] <;> rfl
 · rw [I_ (by simpa using hi),Kf] at h
   split at h <;> cases h
theorem Eg {P:Program} {w:D_} {K:ck} {mg:Str→Option Value} {base:Heap} {qual:Str} {st:Stmt} {N:List Str} {fb:FnS} (Fn:Fun K x qual st f fd) (S:dz N ps (au st))
 (hb:∀ (cdv:Value) (A:w_) (outer:List Env) (s:c_) (H:Hp) (E:XK),Room k (A.deeper (Ld qual (au st) s.heap.objs.size f cdv))→FSs (mS CX0 P w K mg base N qual (au st) f cdv A outer s H E).nox (bC st) fb) :
 FnOk P w K mg base CX0 (k + 1) f fd ps (spF K (bg N.length fb) ps.length):=by
 refine Fn.ok S (fun vs H Q E h=>?_) (fun cdv A outer s H vs Q E hr h=>?_)
 · obtain ⟨ds,r,hl,_⟩:=h
   rw [r.length,hl]
 · obtain ⟨ds,r,hl,q⟩:=h
   refine ⟨_,(hb cdv A outer s H E hr).h,ds.map some ++ q_ (N.length - ds.length) none,fQ r,?_⟩
   unfold bg at q
   match hf:fb (ds.map some ++ q_ (N.length - ds.length) none) with
   | none=>rw [hf] at q; exact q.elim
   | some (.exc c)=>rw [hf] at q; exact q.elim
   | some (.rt d)=>rw [hf] at q; exact fun v H' e r'=>q v H' e r'
   | some (.nx ρ)=>rw [hf] at q; exact fun σ' H' e _=>q .non H' e rfl
end
theorem vP {k:Nat} {f:Addr} {fd:Iu} {x:Str} {P:Program} {w:D_} {K:ck} {mg:Str→Option Value} {base:Heap} {qual:Str} {st:Stmt} {F:List Dv→Option (Rs Dv)} {n:Nat} (N ps:List Str) (fb:FnS) (hF:F=bg N.length fb) (hn:n=ps.length)
 (Fn:Fun K x qual st f fd) (S:dz N ps (au st))
 (hb:∀ (cdv:Value) (A:w_) (outer:List Env) (s:c_) (H:Hp) (E:XK),Room k (A.deeper (Ld qual (au st) s.heap.objs.size f cdv))→FSs (mS CX0 P w K mg base N qual (au st) f cdv A outer s H E).nox (bC st) fb) :
 FnOk P w K mg base CX0 (k + 1) f fd ps (spF K F n):=by
 subst hF hn
 exact Eg Fn S hb
def gd (names:List (Str×Kb)) (env:Env) (acc:List (Str×Addr)):List (Str×Addr):=match names with
 | []=>acc
 | (n,k) :: r=>gd r env (if k == .free then (n,(env.cells.lookup n).getD 0) :: acc else acc)
theorem iN {env:Env} {n:Str} {c:Addr}:∀ (names:List (Str×Kb)) (acc:List (Str×Addr)),(gd names env acc).lookup n=some c→acc.lookup n=some c∨((n,IW)∈names∧c=(env.cells.lookup n).getD 0)
 | [],acc,h=>.inl h
 | (m,k) :: r,acc,h=>by
  rcases iN r _ h with q | ⟨q1,q2⟩
  · by_cases hk:k=.free
    · subst hk
      simp only [beq_self_eq_true,if_true] at q
      rw [HL] at q
      cases hm:n == m with
      | true =>
       rw [hm] at q
       have e:n=m:=by simpa using hm
       subst e
       exact .inr ⟨g_,(HN q).symm⟩
      | false=>rw [hm] at q; exact .inl q
    · have hb:(k == IW)=false:=by simpa using hk
      rw [hb] at q
      exact .inl (by simpa using q)
  · exact .inr ⟨l_ _ q1,q2⟩
theorem kj {env:Env} {n:Str}:∀ (names:List (Str×Kb)) (acc:List (Str×Addr)),(acc.lookup n).isSome=true→((gd names env acc).lookup n).isSome=true
 | [],acc,h=>h
 | (m,k) :: r,acc,h=>by
  refine kj r _ ?_
  split
  · rw [HL]
    cases n == m with
    | true=>rfl
    | false=>exact h
  · exact h
theorem jq {env:Env} {n:Str}:∀ (names:List (Str×Kb)) (acc:List (Str×Addr)),(n,IW)∈names→((gd names env acc).lookup n).isSome=true
 | [],acc,h=>by cases h
 | (m,k) :: r,acc,h=>by
  rcases on.mp h with e | q
  · injection e with e1 e2
    subst e1
    subst e2
    refine kj r _ ?_
    simp only [beq_self_eq_true,if_true,HL]
    rfl
  · exact jq r _ q
theorem cU {β:Type} {n:Str} {k:β}:∀ {l:List (Str×β)},l.lookup n=some k→(n,k)∈l
 | [],h=>by simp at h
 | (m,j) :: r,h=>by
  rw [HL] at h
  cases hm:n == m with
  | true =>
   rw [hm] at h
   have e:n=m:=by simpa using hm
   subst e
   have e2:j=k:=HN h
   subst e2
   exact g_
  | false=>rw [hm] at h; exact l_ _ (cU h)
structure F7 (osc scope:Scope) (x:Str) (cs:List (Str×Nat)) (N:List Str):Prop where
 kind:scope.kind=.function
 okind:osc.kind=.function
 cell:∀ y∈scope.names,y.2≠.cell
 names:∀ y∈scope.names,y.2=.local→scope.names.lookup y.1=some .local
 tgt:scope.names.lookup x=some .local
 nd:(x :: cs.map (·.1)).Nodup
 free:∀ y∈scope.names,y.2=.free→osc.names.lookup y.1=some .cell∨osc.names.lookup y.1=some .free
 caps:∀ c∈cs,N[c.2]?=some c.1∧scope.names.lookup c.1=some .free
theorem gf {scope:Scope} {env:Env} {n:Str} {k:Kb} (h:(relabel scope env).names.lookup n=some k):(n,k)∈scope.names∨(k=.cell∧(n,IW)∈scope.names):=by
 have q:=cU h
 unfold relabel at q
 obtain ⟨⟨m,j⟩,hm,e⟩:=Iv.mp q
 dsimp only at e
 split at e
 · rename_i hc
   injection e with e1 e2
   subst e1
   have hj:j=.free:=by
    rw [j_,j_] at hc
    simpa using hc.1.1
   subst hj
   exact .inr ⟨e2.symm,hm⟩
 · injection e with e1 e2
   subst e1
   subst e2
   exact .inl hm
theorem gg {env:Env}:∀ {names:List (Str×Kb)} {n:Str},names.lookup n=some .free →
 (names.map fun (n,k)=>if (k == IW && env.scope.kind == .function && env.kindOf n == some .cell) then (n,Ji) else (n,k)).lookup n=some .cell ∨
 (names.map fun (n,k)=>if (k == IW && env.scope.kind == .function && env.kindOf n == some .cell) then (n,Ji) else (n,k)).lookup n=some .free
 | [],_,h=>by simp at h
 | (m,k) :: r,n,h=>by
  have ih:=@gg env r n
  rw [HL] at h
  rw [y_]
  cases hm:n == m with
  | true =>
   rw [hm] at h
   have e2:k=.free:=HN h
   subst e2
   by_cases hc:(IW == IW && env.scope.kind == .function && env.kindOf m == some .cell)=true
   · dsimp only
     rw [if_pos hc,HL,hm]
     exact .inl rfl
   · dsimp only
     rw [if_neg hc,HL,hm]
     exact .inr rfl
  | false =>
   rw [hm] at h
   dsimp only
   by_cases hc:(k == IW && env.scope.kind == .function && env.kindOf m == some .cell)=true
   · rw [if_pos hc,HL,hm]; exact ih h
   · rw [if_neg hc,HL,hm]; exact ih h
def vQ (cs:List (Str×Nat)) (ρ:Ev):Ev:=none :: cs.map fun c=>(ρ[c.2]?).join
section
variable {X:Cx} {pins:List (Addr×Obj)} {σ:L2.St} {H:Hp} {s:c_}
end
def qm (tst:Option FnB) (elt:FnE) (cap:Ev):List Dv→Option (List Dv)
 | []=>some []
 | d :: ds =>
  let ρ:=cap.set 0 (some d)
  match (match tst with | none=>(some (.ok true):Option (Rs Bool)) | some t=>t ρ) with
  | some (.ok true)=>(match elt ρ with
   | some (.ok y)=>(match qm tst elt cap ds with | some ys=>some (y :: ys) | none=>none)
   | _=>none)
  | some (.ok false)=>qm tst elt cap ds
  | _=>none
def bh (cs:List (Str×Nat)) (src:FnA) (tst:Option FnB) (elt:FnE):FnE:=fun ρ=>bnd (src ρ) fun ds=>match qm tst elt (vQ cs ρ) ds with
 | some ys=>if ys.length≤100000∧ds.length≤100000 then some (.ok (.lst ys)) else none
 | none=>none
def LAt (h:Heap) (D:Addr) (its:List Value):Prop:=∃ n,h.get? D=some { cls:=.type "list",data:=.seq its.toArray n }
theorem oQ {P:Program} {w:D_} {A:w_} {E:Value→c_→Prop} {s:c_} {D:Addr} {its:List Value} {u:Value} {Q:Value→c_→Prop} (h:LAt s.heap D its) (hz:its.length≤100000)
 (hQ:∀ h',LAt h' D (its ++ [u])→(∀ b o,b≠D→s.heap.get? b=some o→h'.get? b=some o)→Q .none { s with heap:=h' }):k_ (p_ P w) A (call (.builtin "list.append") [.ref D,u]) Q E s:=by
 obtain ⟨n,e⟩:=h
 refine JQ Kx ⟨_,e,rfl⟩ NZ (NK _ _) (Ou D its.toArray n u (by rw [uk]; exact ba hz)) ⟨e,?_⟩
 have q:=OV e (·.push u)
 have e2:its.toArray.push u=(its ++ [u]).toArray:=by simp
 rw [e2] at q
 exact hQ _ ⟨_,q⟩ fun b o hb ho=>(Kl s.heap _ (IG hb)).trans ho
def pI (X:Cx) (ifs:List Expr) (tst:Option FnB):Prop:=match tst with
 | none=>ifs=[]
 | some t=>∃ c,ifs=[c]∧FT X c t
theorem HOk.add {P:Program} {w:D_} {H:Hp} {h h':Heap} {D C:Addr} {o:HO} (x:HOk P w H h) (hD:H D=none) (hC:H C=none) (k:∀ b u,b≠C→h.get? b=some u→h'.get? b=some u) (new:ObjOk P w (upd H D o) h' D o):HOk P w (upd H D o) h':=fun b u e=>by
 by_cases hb:b=D
 · subst hb; rw [ak] at e; cases e; exact new
 · rw [al hb] at e
   refine (x b u e).stay (fun c v hc q=>k c v ?_ q) (fun c q=>by rw [al (am q hD)]; exact q) fun c xs q=>by rw [al (am q hD)]; exact q
   rcases hc with rfl | hc
   · exact am e hC
   · exact am hc hC
theorem wW {b D:Nat} (h:b < D):b≠D:=by omega
theorem Ap {b D:Nat} (h:b < D):b≠D + 1:=by omega
theorem F8 {D:Nat}:D≠D + 1:=by omega
section
variable {X:Cx}
def ef:Dv→Dv→Option (Rs Dv)
 | .int i,.int j=>some (.ok (.int (i + j)))
 | .str x,.str y=>if x.length + y.length≤100000 then some (.ok (.str (x ++ y))) else none
 | .lst a,.lst b=>if a.length + b.length≤100000 then some (.ok (.lst (a ++ b))) else none
 | _,_=>none
def wX:R2:=fun x y H Q=>rI0 (fun i j=>.int (i + j)) x y H Q∨((∃ i j,x=.str i∧y=.str j∧i.length + j.length≤sizeLine∧Q (.str (i ++ j)) H)∨F4 x y H Q)
theorem o_add:OpR X (Jd .Add) wX:=op_add.or (op_add_str.or zY)
theorem Aq:GOp X wX ef:=by
 intro dx dy x y H Q rx ry o
 cases dx <;> cases dy <;> try exact (show False from o).elim
 · rename_i i j
   exact .inl ⟨i,j,rx,ry,o _ H (.refl H) rfl⟩
 · rename_i i j
   simp only [ef] at o
   split at o
   · rename_i hl
     exact .inr (.inl ⟨i,j,rx,ry,ba hl,o _ H (.refl H) rfl⟩)
   · exact o.elim
 · rename_i a b
   simp only [ef] at o
   split at o
   · rename_i hl
     obtain ⟨p,xs,rfl,h1,q1⟩:=rx.lstE
     obtain ⟨p2,xs2,rfl,h2,q2⟩:=ry.lstE
     refine .inr (.inr ⟨p,p2,xs,xs2,rfl,rfl,h1,h2,by rw [q1.length,q2.length]; exact ba hl,fun l hl=>o _ _ (aq hl _) ⟨l,_,rfl,ak,Reps.mono (aq hl _) _ _ (q1.append q2)⟩⟩)
   · exact o.elim
def ue:Dv→Dv→Option (Rs Dv)
 | .int i,.int j=>some (.ok (.int (i - j)))
 | _,_=>none
theorem Eh:GOp X (rI0 fun i j=>.int (i - j)) ue:=by
 intro dx dy x y H Q rx ry o
 cases dx <;> cases dy <;> try exact (show False from o).elim
 rename_i i j
 exact ⟨i,j,rx,ry,o _ H (.refl H) rfl⟩
def fj:Dv→Dv→Option (Rs Dv)
 | .int i,.int j=>if (-18446744073709551616 < i∧i < 18446744073709551616)∨(-18446744073709551616 < j∧j < 18446744073709551616) then some (.ok (.int (i * j))) else none
 | _,_=>none
theorem Ar:GOp X (rI CMul fun i j=>.int (i * j)) fj:=by
 intro dx dy x y H Q rx ry o
 cases dx <;> cases dy <;> try exact (show False from o).elim
 rename_i i j
 simp only [fj] at o
 split at o
 · rename_i h
   exact ⟨i,j,rx,ry,h,o _ H (.refl H) rfl⟩
 · exact o.elim
def eX:Dv→Dv→Option (Rs Dv)
 | .int i,.int j=>if 0 < j then some (.ok (.int (i % j))) else none
 | _,_=>none
theorem Ei:GOp X (rI (fun _ j=>0 < j) fun i j=>.int (i % j)) eX:=by
 intro dx dy x y H Q rx ry o
 cases dx <;> cases dy <;> try exact (show False from o).elim
 rename_i i j
 simp only [eX] at o
 split at o
 · rename_i h
   exact ⟨i,j,rx,ry,h,o _ H (.refl H) rfl⟩
 · exact o.elim
def fk:Dv→Dv→Option (Rs Dv)
 | .int i,.int j=>if 0 < j∧j < 1073741824 then some (.ok (.int (i / j))) else none
 | _,_=>none
theorem As:GOp X (rI FX fun i j=>.int (i / j)) fk:=by
 intro dx dy x y H Q rx ry o
 cases dx <;> cases dy <;> try exact (show False from o).elim
 rename_i i j
 simp only [fk] at o
 split at o
 · rename_i h
   exact ⟨i,j,rx,ry,h,o _ H (.refl H) rfl⟩
 · exact o.elim
def wY:Dv→Option (Rs Dv)
 | .int i=>some (.ok (.int (-i)))
 | _=>none
def f1 (g:Dv→Option (Rs Dv)) (fa:FnE):FnE:=fun ρ=>bnd (fa ρ) g
theorem At {a:Expr} {fa:FnE} {pos:Pos} (ha:FE X a fa):FE X (.UnaryOp .USub a pos) (f1 wY fa) :=
 bO (DQ zO ha.h) fun σ H Q ρ E o=>⟨ρ,E,Out.bind o fun d v H1 e r o1=>by
  cases d <;> try exact (show False from o1).elim
  rename_i i
  exact ⟨i,r,o1 _ H1 (.refl H1) rfl⟩⟩
def seq (x y:Str):Bool:=x.cps.toList == y.cps.toList
theorem mY (x y:Str):(x == y)=seq x y:=by
 rw [HG]
 unfold seq
 obtain ⟨⟨a⟩⟩:=x
 obtain ⟨⟨b⟩⟩:=y
 simp
def eqS:Dv→Dv→Option Bool
 | .non,.non=>some true
 | .non,.int _=>some false
 | .int _,.non=>some false
 | .non,.bl _=>some false
 | .bl _,.non=>some false
 | .non,.str _=>some false
 | .str _,.non=>some false
 | .int i,.int j=>some (i == j)
 | .bl i,.bl j=>some (i == j)
 | .str i,.str j=>some (seq i j)
 | .int _,.str _=>some false
 | .str _,.int _=>some false
 | .bl _,.str _=>some false
 | .str _,.bl _=>some false
 | _,_=>none
theorem vR {K:ck} {H:Hp} {dx dy:Dv} {x y:V} {b:Bool} (rx:Rep K H dx x) (ry:Rep K H dy y) (h:eqS dx dy=some b):DT x y=true∧decide (x=y)=b:=by
 cases dx <;> cases dy <;> (try cases h) <;> (try (cases rx; cases ry; exact ⟨rfl,by first | rfl | exact lE | exact pV | (rw [lF,mY]) | simp⟩))
def Ej (p:Int→Int→Bool):Dv→Dv→Option (Rs Dv)
 | .int i,.int j=>some (.ok (.bl (p i j)))
 | _,_=>none
theorem Ek (p:Int→Int→Bool):GOp X (rI0 fun i j=>.bl (p i j)) (Ej p):=by
 intro dx dy x y H Q rx ry o
 cases dx <;> cases dy <;> try exact (show False from o).elim
 rename_i i j
 exact ⟨i,j,rx,ry,o _ H (.refl H) rfl⟩
abbrev gtD:=Ej fun i j=>decide (j < i)
def isN:Dv→Dv→Option (Rs Dv)
 | x,.non=>some (.ok (.bl (match x with | .non=>true | _=>false)))
 | _,_=>none
theorem wZ {K:ck} {H:Hp} {d:Dv} {v:V} (r:Rep K H d v):decide (v=.non)=(match d with | .non=>true | _=>false):=by
 cases d with
 | non=>cases (show v=.non from r); rfl
 | bl b=>cases (show v=.bl b from r); rfl
 | int b=>cases (show v=.int b from r); rfl
 | str b=>cases (show v=.str b from r); rfl
 | tup ds=>obtain ⟨a,xs,rfl,_⟩:=r.tupE; rfl
 | lst ds=>obtain ⟨a,xs,rfl,_⟩:=r.lstE; rfl
 | scr ds=>obtain ⟨a,rfl,_⟩:=r.scrE; rfl
 | exn c =>
  obtain ⟨a,_,_,_,rfl,_⟩:=r.exnE
  rfl
theorem Au:GOp X (fun x y H Q=>y=.non∧Q (.bl (decide (x=.non))) H) isN:=by
 intro dx dy x y H Q rx ry o
 cases dy <;> try exact (show False from o).elim
 have q:=wZ rx
 refine ⟨ry,?_⟩
 have q2:=o _ H (.refl H) rfl
 cases dx <;> (rw [q]; exact q2)
def inS (x y:Str):Bool:=!(Hx y x 0 y.length 1).isEmpty
def cg:Dv→Bool
 | .non=>true
 | .bl _=>true
 | .int _=>true
 | .str _=>true
 | _=>false
def eqF:Dv→Dv→Bool
 | .non,.non=>true
 | .bl a,.bl b=>a == b
 | .bl a,.int b=>(if a then 1 else 0) == b
 | .int a,.bl b=>a == (if b then 1 else 0)
 | .int a,.int b=>a == b
 | .str a,.str b=>seq a b
 | _,_=>false
def inL (x:Dv) (ys:List Dv):Option Bool:=if cg x && ys.all cg then some (ys.any fun y=>eqF y x) else none
def w5:Dv→Dv→Option Bool
 | .str x,.str y=>some (inS x y)
 | x,.lst ys=>inL x ys
 | x,.tup ys=>inL x ys
 | _,_=>none
def inD (x y:Dv):Option (Rs Dv):=match w5 x y with
 | some b=>some (.ok (.bl b))
 | none=>none
def kl (x y:Dv):Option (Rs Dv):=match w5 x y with
 | some b=>some (.ok (.bl (!b)))
 | none=>none
theorem jr {K:ck} {H:Hp} {d:Dv} {v:V} (r:Rep K H d v) (h:cg d=true):dk v=true:=by
 cases d <;> first | (cases h; done) | (cases r; rfl)
theorem gz {K:ck} {H:Hp}:∀ {ds:List Dv} {vs:List V},Reps K H ds vs→ds.all cg=true→vs.all dk=true
 | [],vs,r,_=>by cases (show vs=[] from r); rfl
 | d :: ds,vs,r,h=>by
  obtain ⟨v,us,rfl,r1,r2⟩:∃ v us,vs=v :: us∧Rep K H d v∧Reps K H ds us:=r
  rw [Im,j_] at h
  rw [Im,j_]
  exact ⟨jr r1 h.1,gz r2 h.2⟩
theorem qo {K:ck} {H:Hp} {d e:Dv} {v u:V} (r:Rep K H d v) (q:Rep K H e u) (h:cg d=true) (h':cg e=true):eqV v u=eqF d e:=by
 cases d <;> first | (cases h; done) | (cases r; cases e <;> first | (cases h'; done) | (cases q; first | rfl | exact mY _ _))
theorem vS {K:ck} {H:Hp} {e:Dv} {u:V} (q:Rep K H e u) (h':cg e=true):∀ {ds:List Dv} {vs:List V},Reps K H ds vs→ds.all cg=true→(vs.any fun y=>eqV y u)=ds.any fun y=>eqF y e
 | [],vs,r,_=>by cases (show vs=[] from r); rfl
 | d :: ds,vs,r,h=>by
  obtain ⟨v,us,rfl,r1,r2⟩:∃ v us,vs=v :: us∧Rep K H d v∧Reps K H ds us:=r
  rw [Im,j_] at h
  rw [LU,LU,qo r1 q h.1 h',vS q h' r2 h.2]
theorem mZ {K:ck} {H:Hp} {dx:Dv} {ys:List Dv} {x:V} {vs:List V} {b:Bool} (rx:Rep K H dx x) (ry:Reps K H ys vs) (h:inL dx ys=some b):dk x=true∧vs.all dk=true∧inV x vs=b:=by
 unfold inL at h
 split at h
 · rename_i hc
   rw [j_] at hc
   cases h
   exact ⟨jr rx hc.1,gz ry hc.2,vS rx hc.1 ry hc.2⟩
 · cases h
def F9 (K:ck):R2:=fun x y H Q=>(∃ i j,x=.str i∧y=.str j∧Q (.bl (!(Hx j i 0 j.length 1).isEmpty)) H)∨rIn K false x y H Q
def lK (K:ck):R2:=fun x y H Q=>(∃ i j,x=.str i∧y=.str j∧Q (.bl (!(!(Hx j i 0 j.length 1).isEmpty))) H)∨rIn K true x y H Q
theorem Ga:OpR X (Hu .In) (F9 X.K):=op_in_str.or qd
theorem o_notIn:OpR X (Hu .NotIn) (lK X.K):=op_notIn_str.or kf
theorem Gb:GOp X (F9 X.K) inD:=by
 intro dx dy x y H Q rx ry o
 unfold inD at o
 split at o
 · rename_i b hb
   have q:=o _ H (.refl H) rfl
   cases dy <;> try (cases dx <;> cases hb; done)
   · rename_i z
     cases dx <;> try (cases hb; done)
     rename_i z'
     cases hb
     exact .inl ⟨z',z,rx,ry,q⟩
   · rename_i ys
     have hb':inL dx ys=some b:=by cases dx <;> exact hb
     obtain ⟨a,vs,rfl,h1,h2⟩:=ry.tupE
     obtain ⟨f1,f2,f3⟩:=mZ rx h2 hb'
     exact .inr ⟨a,vs,rfl,.inr (SqT.of h1),f1,f2,by rw [if_neg pi,f3]; exact q⟩
   · rename_i ys
     have hb':inL dx ys=some b:=by cases dx <;> exact hb
     obtain ⟨a,vs,rfl,h1,h2⟩:=ry.lstE
     obtain ⟨f1,f2,f3⟩:=mZ rx h2 hb'
     exact .inr ⟨a,vs,rfl,.inl (SqL.of h1),f1,f2,by rw [if_neg pi,f3]; exact q⟩
 · exact o.elim
theorem qp:GOp X (lK X.K) kl:=by
 intro dx dy x y H Q rx ry o
 unfold kl at o
 split at o
 · rename_i b hb
   have q:=o _ H (.refl H) rfl
   cases dy <;> try (cases dx <;> cases hb; done)
   · rename_i z
     cases dx <;> try (cases hb; done)
     rename_i z'
     cases hb
     exact .inl ⟨z',z,rx,ry,q⟩
   · rename_i ys
     have hb':inL dx ys=some b:=by cases dx <;> exact hb
     obtain ⟨a,vs,rfl,h1,h2⟩:=ry.tupE
     obtain ⟨f1,f2,f3⟩:=mZ rx h2 hb'
     exact .inr ⟨a,vs,rfl,.inr (SqT.of h1),f1,f2,by rw [if_pos rfl,f3]; exact q⟩
   · rename_i ys
     have hb':inL dx ys=some b:=by cases dx <;> exact hb
     obtain ⟨a,vs,rfl,h1,h2⟩:=ry.lstE
     obtain ⟨f1,f2,f3⟩:=mZ rx h2 hb'
     exact .inr ⟨a,vs,rfl,.inl (SqL.of h1),f1,f2,by rw [if_pos rfl,f3]; exact q⟩
 · exact o.elim
def atD {α:Type} (xs:List α) (i:Int):Option α:=if 0≤i then xs[i.toNat]? else if -(xs.length:Int)≤i then xs[(i + xs.length).toNat]? else none
theorem jt {α:Type} {xs:List α} {i:Int} {v:α} (h:atD xs i=some v):atI xs i=some v:=by
 unfold atD at h
 unfold atI ixN
 split at h
 · rename_i h0
   have hl:i.toNat < xs.length:=by
    obtain ⟨q,_⟩:=v_.mp h
    exact q
   rw [if_pos h0,if_pos (by omega)]
   exact h
 · rename_i h0
   split at h
   · rename_i h1
     rw [if_neg h0,if_pos h1]
     exact h
   · cases h
def ixD:Dv→Dv→Option (Rs Dv)
 | .lst xs,.int i=>(match atD xs i with | some d=>some (.ok d) | none=>none)
 | .tup xs,.int i=>(match atD xs i with | some d=>some (.ok d) | none=>none)
 | .str z,.int i=>if z.length≤100000 then (match atD z.cps.toList i with | some c=>some (.ok (.str ⟨#[c]⟩)) | none=>none) else none
 | .scr ns,.int i=>(match atD ns i with | some d=>some (.ok (.int d)) | none=>none)
 | _,_=>none
theorem lL {α β:Type} {xs:List α} {ys:List β} (h:ys.length=xs.length) {i:Int} {x:α} (e:atD xs i=some x):∃ j:Nat,xs[j]?=some x∧∀ y,ys[j]?=some y→atD ys i=some y:=by
 unfold atD at e
 split at e
 · rename_i h0
   exact ⟨_,e,fun y q=>by unfold atD; rw [if_pos h0]; exact q⟩
 · rename_i h0
   split at e
   · rename_i h1
     exact ⟨_,e,fun y q=>by unfold atD; rw [if_neg h0,h,if_pos h1]; exact q⟩
   · cases e
theorem GK:GOp X (rIx X.K) ixD:=by
 intro dx dy x y H Q rx ry o
 cases dx <;> cases dy <;> try exact (show False from o).elim
 · rename_i z i
   simp only [ixD] at o
   split at o
   · rename_i hl
     split at o
     · rename_i c hc
       exact .inr (.inr ⟨z,i,c,rx,ry,ba hl,jt hc,o _ H (.refl H) rfl⟩)
     · exact o.elim
   · exact o.elim
 · rename_i ds i
   simp only [ixD] at o
   split at o
   · rename_i d hd
     obtain ⟨a,xs,rfl,h1,h2⟩:=rx.tupE
     obtain ⟨j,e1,e2⟩:=lL h2.length hd
     obtain ⟨v,e3,r3⟩:=h2.get' e1
     exact .inr (.inl ⟨a,xs,i,v,rfl,ry,SqT.of h1,jt (e2 v e3),o v H (.refl H) r3⟩)
   · exact o.elim
 · rename_i ds i
   simp only [ixD] at o
   split at o
   · rename_i d hd
     obtain ⟨a,xs,rfl,h1,h2⟩:=rx.lstE
     obtain ⟨j,e1,e2⟩:=lL h2.length hd
     obtain ⟨v,e3,r3⟩:=h2.get' e1
     exact .inl ⟨a,xs,i,v,rfl,ry,SqL.of h1,jt (e2 v e3),o v H (.refl H) r3⟩
   · exact o.elim
 · rename_i ns i
   simp only [ixD] at o
   split at o
   · rename_i d hd
     obtain ⟨a,rfl,h1⟩:=rx.scrE
     obtain ⟨j,e1,e2⟩:=lL (ys:=ns.map V.int) (by simp) hd
     exact .inl ⟨a,_,i,.int d,rfl,ry,h1,jt (e2 _ (by rw [Hz,e1] <;> rfl)),o _ H (.refl H) rfl⟩
   · exact o.elim
theorem El {a b:Expr} {fa fb:FnE} {pos:Pos} (ha:FE X a fa) (hb:FE X b fb) (hs:qb b:=by intro _ _; kernel_rfl):FE X (.Subscript a b pos) (f2 ixD fa fb) :=
 bO (DZ zV ha.h hb.h hs) fun _ _ _ _ E o=>two GK E o
abbrev FnO:=Ev→Option (Rs (Option Int))
def OutO (X:Cx) (H:Hp) (o:Option (Rs (Option Int))) (Q:Option Int→Hp→Prop):Prop:=match o with
 | none=>False
 | some (.exc c)=>XW X c H
 | some (.ok d)=>∀ H',Same H H'→Q d H'
theorem OutO.mono {H H':Hp} {Q:Option Int→Hp→Prop} (e:Same H H'):∀ {o:Option (Rs (Option Int))},OutO X H o Q→OutO X H' o Q
 | none,h=>h
 | some (.exc _),h=>XW.mono h e
 | some (.ok _),h=>fun H1 e1=>h H1 (e.trans e1)
structure FO (X:Cx) (e:Option Expr) (f:FnO):Prop where
 h:PO X e fun σ H Q=>∃ ρ,Envs X.K H σ ρ∧OutO X H (f ρ) Q
def ju:FnO:=fun _=>some (.ok none)
def toI:Dv→Option (Rs (Option Int))
 | .int i=>some (.ok (some i))
 | _=>none
def gm (f:FnE):FnO:=fun ρ=>bnd (f ρ) toI
theorem w6:FO X none ju:=⟨fun pins s σ H Q I ⟨_,_,o⟩=>wJ pins s σ H Q I (o H (.refl H))⟩
theorem w8 {e:Expr} {fa:FnE} (h:FE X e fa):FO X (some e) (gm fa):=⟨fun pins s σ H Q I ⟨ρ,E,o⟩=>wK h.h pins s σ H Q I ⟨ρ,E,by
 unfold gm at o
 match hf:fa ρ,o with
 | none,o=>exact o
 | some (.exc c),o=>exact o
 | some (.ok d),o =>
  intro v H' e r
  cases d <;> try exact (show False from o).elim
  rename_i i
  exact ⟨i,r,o H' e⟩⟩⟩
def tG {α:Type} (xs:List α) (lo hi:Option Int):List α:=(xs.drop (HT.sIx xs.length 0 lo)).take (HT.sIx xs.length xs.length hi - HT.sIx xs.length 0 lo)
def GL:V→Option Int→Option Int→Hp→VK→Prop:=fun x lo hi H Q=>∃ z,x=.str z∧z.length≤sizeLine∧Q (.str (OS z lo hi)) H
theorem sl_str:SlR X GL:=by
 intro pins s σ H x v vl vu lo hi sl Q I rx hs pl pu q
 obtain ⟨z,rfl,hz,q⟩:=q
 obtain ⟨t,rfl⟩:=rx
 refine ⟨"str",_,F.slot_str_getitem.lookup,Lc _ _ _,?_⟩
 have fin:∀ (t':Tok) (k:Nat),EP X pins σ Q (.str (OS z lo hi) t') { s with toks:=k }:=fun t' k=>⟨.str (OS z lo hi),H,I.tok _,⟨_,rfl⟩,q⟩
 cases pl with
 | none =>
  cases pu with
  | none=>exact JZ (l:=none) (u:=none) (st:=none) hs rfl (LZ ⟨Hm (Nf z _ _) hz,fun t' k=>fin t' k⟩)
  | int j u=>exact JZ (l:=none) (u:=some (j,u)) (st:=none) hs rfl (LZ ⟨Hm (Nf z _ _) hz,fun t' k=>fin t' k⟩)
 | int i u' =>
  cases pu with
  | none=>exact JZ (l:=some (i,u')) (u:=none) (st:=none) hs rfl (LZ ⟨Hm (Nf z _ _) hz,fun t' k=>fin t' k⟩)
  | int j u=>exact JZ (l:=some (i,u')) (u:=some (j,u)) (st:=none) hs rfl (LZ ⟨Hm (Nf z _ _) hz,fun t' k=>fin t' k⟩)
def Dh (x:Dv) (lo hi:Option Int):Option (Rs Dv):=match x with
 | .str z=>if z.length≤100000 then some (.ok (.str (OS z lo hi))) else none
 | .lst xs=>some (.ok (.lst (tG xs lo hi)))
 | _=>none
def vT (fa:FnE) (fl fh:FnO):FnE:=fun ρ=>bnd (fa ρ) fun x=>bnd (fl ρ) fun lo=>bnd (fh ρ) fun hi=>Dh x lo hi
theorem fm {H:Hp} {Q:VK} {o:Option (Rs (Option Int))} {k:Option Int→Option (Rs Dv)} {P:Option Int→Hp→Prop} (h:Out X H (bnd o k) Q) (hp:∀ b H',Same H H'→Out X H' (k b) Q→P b H'):OutO X H o P:=by
 match o,h with
 | some (.exc _),h=>exact h
 | some (.ok d),h=>exact fun H1 e=>hp d H1 e (Out.mono e h)
theorem Av {a:Expr} {lo hi:Option Expr} {fa:FnE} {fl fh:FnO} {p2 pos:Pos} (ha:FE X a fa) (hl:FO X lo fl) (hh:FO X hi fh):FE X (.Subscript a (.Slice lo hi none p2) pos) (vT fa fl fh) :=
 bO (mU (sl_str.or qc) ha.h hl.h hh.h) fun σ H Q ρ E o=>⟨ρ,E,Out.bind o fun d v H1 e1 r1 o1=>⟨ρ,E.mono e1,fm o1 fun l H2 e2 o2=>⟨ρ,(E.mono e1).mono e2,fm o2 fun u H3 e3 o3=>by
  have r3:=Rep.mono e3 d v (Rep.mono e2 d v r1)
  cases d <;> try exact (show False from o3).elim
  · rename_i z
    unfold Dh at o3
    dsimp only at o3
    split at o3
    · rename_i hz
      exact .inl ⟨z,r3,ba hz,o3 _ H3 (.refl H3) rfl⟩
    · exact o3.elim
  · rename_i ds
    obtain ⟨a',xs,rfl,h1,h2⟩:=r3.lstE
    refine .inr ⟨a',xs,rfl,SqL.of h1,fun p hp=>o3 _ _ (aq hp _) ⟨p,_,rfl,ak,Reps.mono (aq hp _) _ _ ?_⟩⟩
    unfold tW tG
    rw [h2.length]
    exact (h2.drop _).take _⟩⟩⟩
def dj:List Dv→Option (Rs Dv)
 | [.str z]=>if z.length≤100000 then some (.ok (.int z.length)) else none
 | [.lst xs]=>some (.ok (.int xs.length))
 | [.tup xs]=>some (.ok (.int xs.length))
 | [.scr ns]=>some (.ok (.int ns.length))
 | _=>none
def fB1 (g:List Dv→Option (Rs Dv)) (ga:FnA):FnE:=fun ρ=>bnd (ga ρ) g
variable {x:Str} {p pos:Pos} {e:Expr} {es:List Expr} {ga:FnA}
theorem bD {K:ck} {H:Hp} {d:Dv} {vs:List V} (r:Reps K H [d] vs):∃ v,vs=[v]∧Rep K H d v:=by
 obtain ⟨v,us,rfl,r1,r2⟩:∃ v us,vs=v :: us∧Rep K H d v∧Reps K H [] us:=r
 cases (show us=[] from r2)
 exact ⟨v,rfl,r1⟩
theorem Aw {K:ck} {H:Hp} {d d2:Dv} {vs:List V} (r:Reps K H [d,d2] vs):∃ v v2,vs=[v,v2]∧Rep K H d v∧Rep K H d2 v2:=by
 obtain ⟨v,us,rfl,r1,r2⟩:∃ v us,vs=v :: us∧Rep K H d v∧Reps K H [d2] us:=r
 obtain ⟨v2,rfl,r3⟩:=bD r2
 exact ⟨v,v2,rfl,r1,r3⟩
theorem Ax (hg:Gl X "len") (hm:X.mg "len"=none) (ha:FA X (e :: es) ga) (he:f_ (e :: es) X.env=(false,eval e X.env) :: f_ es X.env:=by kernel_rfl) (hpl:(Ho pos (f_ es X.env)).any (·.1)=false:=by kernel_rfl):FE X (.Call (.Name "len" p) (e :: es) [] pos) (fB1 dj ga) :=
 bO (dM tU hg hm Pr ha.h (by decide) (by decide) he hpl) fun σ H Q ρ E o=>⟨ρ,E,OutA.bind o fun ds vs H1 e1 rs o1=>by
  unfold dj at o1
  split at o1
  · rename_i z
    split at o1
    · rename_i hz
      obtain ⟨v,rfl,r⟩:=bD rs
      cases (show v=.str z from r)
      exact ⟨_,_,rfl,⟨ba hz,rfl⟩,o1 _ H1 (.refl H1) rfl⟩
    · exact o1.elim
  · rename_i xs
    obtain ⟨v,rfl,r⟩:=bD rs
    obtain ⟨a,ws,rfl,h1,h2⟩:=r.lstE
    exact ⟨_,_,rfl,.inl ⟨ws,SqL.of h1,rfl⟩,o1 _ H1 (.refl H1) (by rw [h2.length]; rfl)⟩
  · rename_i xs
    obtain ⟨v,rfl,r⟩:=bD rs
    obtain ⟨a,ws,rfl,h1,h2⟩:=r.tupE
    exact ⟨_,_,rfl,.inr ⟨ws,SqT.of h1,rfl⟩,o1 _ H1 (.refl H1) (by rw [h2.length]; rfl)⟩
  · rename_i ns
    obtain ⟨v,rfl,r⟩:=bD rs
    obtain ⟨a,rfl,h1⟩:=r.scrE
    exact ⟨_,_,rfl,.inl ⟨_,h1,rfl⟩,o1 _ H1 (.refl H1) (by rw [HF]; rfl)⟩
  · exact o1.elim⟩
def jv:List Dv→Option (List Bool)
 | []=>some []
 | .bl b :: r=>(match jv r with | some bs=>some (b :: bs) | none=>none)
 | _=>none
def lM:List Dv→Option (Rs Dv)
 | [.lst xs]=>(match jv xs with | some bs=>some (.ok (.bl (bs.all id))) | none=>none)
 | _=>none
theorem m5 {K:ck} {H:Hp}:∀ {ds:List Dv} {vs:List V} {us:List Value} {bs:List Bool},Reps K H ds vs→Vals vs us→jv ds=some bs→us=bs.map Ig
 | [],vs,us,bs,r,q,h=>by
  cases (show vs=[] from r)
  cases q
  cases h
  rfl
 | d :: ds,vs,us,bs,r,q,h=>by
  obtain ⟨v,ws,rfl,r1,r2⟩:∃ v us,vs=v :: us∧Rep K H d v∧Reps K H ds us:=r
  cases q with
  | cons q1 q2 =>
   cases d <;> try (cases h; done)
   rename_i b
   simp only [jv] at h
   cases hb:jv ds with
   | none=>rw [hb] at h; cases h
   | some bs' =>
    rw [hb] at h
    cases h
    cases (show v=.bl b from r1)
    cases q1
    rw [m5 r2 q2 hb]
    rfl
theorem uf:CallR X (.builtin "all") (fun xs H Q=>∃ a vs bs ds,xs=[.ref a]∧H a=some (.lst vs)∧Reps X.K H ds vs∧jv ds=some bs∧X.calm=true∧Q (.bl (bs.all id)) H):=by
 intro pins s σ H xs us Q I r h
 obtain ⟨a,vs,bs,ds,rfl,h1,h2,h3,hc,q⟩:=h
 obtain ⟨u,rfl,ru⟩:=cT r
 cases ru
 obtain ⟨z,its,n,rv,hl,e⟩:=I.lstM h1
 have eb:=m5 h2 rv h3
 subst eb
 have hL:s.heap.IsList a (bs.map Ig).toArray:=⟨_,e,rfl,_,rfl⟩
 have hlt:a < s.heap.objs.size:=o_ e
 refine call_all_walk (Lo hL ?_)
 refine ⟨s.heap.objs.size,[s.heap.objs.size,a],[s.heap.objs.size],(bs.map Ig).toArray.size,_,_,fun i=>(bs[i]?).getD true,rfl,Pv (A:=X.A.in1) (I.ok.hd hc) _ a (t_ hlt) (bs.map Ig).toArray,
  ⟨⟨_,i_ _ rfl,rfl,rfl⟩,hL.push _⟩,fun i v s' Q' E' hP hQ=>?_,fun h' tk hk=>?_⟩
 · have hP':(bs.map Ig)[i]?=some v:=by simpa using hP
   rw [Hz] at hP'
   cases hb:bs[i]? with
   | none=>rw [hb] at hP'; cases hP'
   | some b =>
    rw [hb] at hP'
    cases hP'
    have hQ2:Q' ((bs[i]?).getD true) s':=hQ
    rw [hb] at hQ2
    exact Jl hQ2
 · have e2:((h_ (bs.map Ig).toArray.size).all fun i=>(bs[i]?).getD true)=bs.all id:=by
    rw [uk,HF]
    rw [HG]
    simp only [HV,IF,id]
    constructor
    · intro hh b hb
      obtain ⟨i,hi,rfl⟩:=KR.mp hb
      simpa [hi] using hh i hi
    · intro hh i hi
      simp only [u_ hi,Option.getD_some]
      exact hh _ (Ju hi)
   rw [e2]
   refine ⟨.bl _,H,I.kept fun b x eb=>hk b x (fun hm=>?_) (e_ _ eb),rfl,q⟩
   rw [Ih.mp hm] at eb
   exact Ik _ (o_ eb)
theorem Ay (hc:X.calm=true) (hg:Gl X "all") (hm:X.mg "all"=none) (ha:FA X (e :: es) ga) (he:f_ (e :: es) X.env=(false,eval e X.env) :: f_ es X.env:=by kernel_rfl) (hpl:(Ho pos (f_ es X.env)).any (·.1)=false:=by kernel_rfl):FE X (.Call (.Name "all" p) (e :: es) [] pos) (fB1 lM ga) :=
 bO (dM uf hg hm PyProof.Rows.boot_all ha.h (by decide) (by decide) he hpl) fun σ H Q ρ E o=>⟨ρ,E,OutA.bind o fun ds vs H1 e1 rs o1=>by
  unfold lM at o1
  split at o1
  · rename_i xs
    split at o1
    · rename_i bs hb
      obtain ⟨v,rfl,r⟩:=bD rs
      obtain ⟨a,ws,rfl,h1,h2⟩:=r.lstE
      exact ⟨a,ws,bs,xs,rfl,h1,h2,hb,hc,o1 _ H1 (.refl H1) rfl⟩
    · exact o1.elim
  · exact o1.elim⟩
def tyD:Dv→String
 | .non=>"NoneType"
 | .bl _=>"bool"
 | .int _=>"int"
 | .str _=>"str"
 | .tup _=>"tuple"
 | .lst _=>"list"
 | .scr _=>"list"
 | .exn _=>"object"
end
section
variable {X:Cx} {p pos apos cpos pT:Pos} {e a o:Expr} {es:List Expr} {ga:FnA} {fa fo:FnE}
theorem w9 {K:ck} {H:Hp} {d:Dv} {v:V} (r:Rep K H d v) (hs:∀ ns,d≠.scr ns) (hx:∀ c,d≠.exn c):mP K H v (.type (tyD d)):=by
 cases d with
 | non=>cases (show v=.non from r); exact .non
 | bl b=>cases (show v=.bl b from r); exact .bl b
 | int b=>cases (show v=.int b from r); exact .int b
 | str b=>cases (show v=.str b from r); exact .str b
 | tup ds=>obtain ⟨a,xs,rfl,h,_⟩:=r.tupE; exact .tup h
 | lst ds=>obtain ⟨a,xs,rfl,h,_⟩:=r.lstE; exact .lst h
 | scr ns=>exact absurd rfl (hs ns)
 | exn c=>exact absurd rfl (hx c)
theorem ug (T:String):CallR X (.builtin "isinstance") (fun xs H Q=>∃ x t b,xs=[x,.ty T]∧mP X.K H x t∧J_ X.K t (.type T)=some b∧Q (.bl b) H):=by
 intro pins s σ H xs us Q I r h
 obtain ⟨x,t,b,rfl,ty,hk,q⟩:=h
 obtain ⟨u,w',rfl,ru,rw'⟩:=wG r
 cases (show w'=m_ T from rw')
 exact p0 I ru ty hk fun tk=>⟨.bl b,H,I.tok tk,rfl,q⟩
def dW (tb:Dv→Bool):Dv→Option (Rs Dv)
 | .scr _=>none
 | .exn _=>none
 | d=>some (.ok (.bl (tb d)))
theorem m7 {T:String} {tb:Dv→Bool} (hk:∀ K d,J_ K (.type (tyD d)) (.type T)=some (tb d)) (hT:Iq (a_ T)=some (.type T)) (hn:a_ T≠"__name__") (hdT:(a_ T == ("__debug__":Str))=false)
 (hg:Gl X "isinstance") (hm:X.mg "isinstance"=none) (hgT:Gl X (a_ T)) (hmT:X.mg (a_ T)=none) (ha:FE X a fa)
 (hs1:f_ [a,.Name (a_ T) pT] X.env=(false,eval a X.env) :: f_ [.Name (a_ T) pT] X.env:=by kernel_rfl) (hs2:f_ [.Name (a_ T) pT] X.env=(false,eval (.Name (a_ T) pT) X.env) :: f_ [] X.env:=by kernel_rfl)
 (hpl:(Ho pos (f_ [.Name (a_ T) pT] X.env)).any (·.1)=false:=by kernel_rfl) :
 FE X (.Call (.Name "isinstance" p) [a,.Name (a_ T) pT] [] pos) (f1 (dW tb) fa) :=
 bO (dM (ug T) hg hm Ks (ez ha.h (ez (pO (v:=.ty T) hgT hmT hT rfl hn hdT) mQ hs2) hs1) (by decide) (by decide) hs1 hpl) fun σ H Q ρ E o=>⟨ρ,E,Out.bind o fun d v H1 e1 r o1=>by
  show ∃ x t b,[v,V.ty T]=[x,.ty T]∧_
  cases d with
  | scr ns=>exact o1.elim
  | exn c=>exact o1.elim
  | _=>exact ⟨v,_,_,rfl,w9 r (fun ns z=>by cases z) (fun c z=>by cases z),hk X.K _,o1 _ H1 (.refl H1) rfl⟩⟩
def eA:Dv→Bool
 | .str _=>true
 | _=>false
theorem xb (K:ck) (d:Dv):J_ K (.type (tyD d)) (.type "str")=some (eA d):=by cases d <;> kernel_rfl
def dq:Dv→Bool
 | .tup _=>true
 | _=>false
theorem xf (K:ck) (d:Dv):J_ K (.type (tyD d)) (.type "tuple")=some (dq d):=by cases d <;> kernel_rfl
def bM:Dv→Bool
 | .bl _=>true
 | _=>false
theorem uh (K:ck) (d:Dv):J_ K (.type (tyD d)) (.type "bool")=some (bM d):=by cases d <;> kernel_rfl
def fM (g:Str→List Dv→Option (Rs Dv)) (fo:FnE) (ga:FnA):FnE:=fun ρ=>bnd (fo ρ) fun x=>match x with
 | .str i=>bnd (ga ρ) fun xs=>g i xs
 | _=>none
def ui (h:Str→Str→Bool):Str→List Dv→Option (Rs Dv)
 | x,[.str y]=>some (.ok (.bl (h x y)))
 | _,_=>none
def Di (h:Str→Str→Int):Str→List Dv→Option (Rs Dv)
 | x,[.str y]=>some (.ok (.int (h x y)))
 | _,_=>none
def xg (h:Str→Str→Bool):V→List V→Hp→VK→Prop:=fun x xs H Q=>∃ i j,x=.str i∧xs=[.str j]∧Q (.bl (h i j)) H
def Az (h:Str→Str→Int):V→List V→Hp→VK→Prop:=fun x xs H Q=>∃ i j,x=.str i∧xs=[.str j]∧Q (.int (h i j)) H
theorem Em:MtR X "str.startswith" (xg KO):=by
 intro pins s σ H x xs v us Q I rx rs h
 obtain ⟨i,j,rfl,rfl,q⟩:=h
 obtain ⟨t,rfl⟩:=rx
 obtain ⟨u,rfl,ru⟩:=cT rs
 obtain ⟨t',rfl⟩:=ru
 exact SC.startswith ⟨.bl _,H,I,rfl,q⟩
theorem Eo:MtR X "str.endswith" (xg OC):=by
 intro pins s σ H x xs v us Q I rx rs h
 obtain ⟨i,j,rfl,rfl,q⟩:=h
 obtain ⟨t,rfl⟩:=rx
 obtain ⟨u,rfl,ru⟩:=cT rs
 obtain ⟨t',rfl⟩:=ru
 exact SC.endswith ⟨.bl _,H,I,rfl,q⟩
theorem xh:MtR X "str.find" (Az Txt.find):=by
 intro pins s σ H x xs v us Q I rx rs h
 obtain ⟨i,j,rfl,rfl,q⟩:=h
 obtain ⟨t,rfl⟩:=rx
 obtain ⟨u,rfl,ru⟩:=cT rs
 obtain ⟨t',rfl⟩:=ru
 exact SC.find ⟨.int _,H,I.tok _,⟨_,rfl⟩,q⟩
theorem xj {name:Str} {id:String} {r:V→List V→Hp→VK→Prop} {g:Str→List Dv→Option (Rs Dv)} (slot:Slot "str" name id) (hty:N_ (.builtin id)=pure (.type "method_descriptor")) (hm:MtR X id r)
 (hg:∀ i ds vs H Q,Reps X.K H ds vs→Out X H (g i ds) Q→r (.str i) vs H Q) (ho:FE X o fo) (ha:FA X (e :: es) ga)
 (hbase:IU o name X.env (eval o X.env)=eval o X.env:=by kernel_rfl)
 (hfew:((Ho cpos (f_ (e :: es) X.env)).all (fun x=>!x.1) && (Jn cpos (Io [] X.env)).all (fun x=>x.1.isSome)
   && decide ((e :: es).length + ([]:List Jc).length + (if ([]:List Jc).isEmpty then 0 else 1) < 30))=true:=by kernel_rfl)
 (hline:(apos.endLine == cpos.line)=true:=by kernel_rfl) (hs:f_ (e :: es) X.env=(false,eval e X.env) :: f_ es X.env:=by kernel_rfl) (hplain:(Ho cpos (f_ es X.env)).any (·.1)=false:=by kernel_rfl) :
 FE X (.Call (.Attribute o name apos) (e :: es) [] cpos) (fM g fo ga) :=
 bO (oN PySem.F.plainAttrs_str slot hty hm ho.h ha.h hbase hfew hline hs hplain) fun σ H Q ρ E o=>⟨ρ,E,Out.bind o fun d v H1 e1 rd o1=>by
  cases d <;> try exact (show False from o1).elim
  rename_i i
  cases (show v=.str i from rd)
  exact ⟨rfl,ρ,E.mono e1,OutA.bind o1 fun ds vs H2 e2 rs o2=>hg i ds vs H2 Q rs o2⟩⟩
theorem vU {h:Str→Str→Bool} (i:Str) (ds:List Dv) (vs:List V) (H:Hp) (Q:VK) (rs:Reps X.K H ds vs) (o:Out X H (ui h i ds) Q):xg h (.str i) vs H Q:=by
 unfold ui at o
 split at o
 · rename_i j
   obtain ⟨w,rfl,rw'⟩:=bD rs
   cases (show w=.str j from rw')
   exact ⟨i,j,rfl,rfl,o _ H (.refl H) rfl⟩
 · exact o.elim
theorem AA {h:Str→Str→Int} (i:Str) (ds:List Dv) (vs:List V) (H:Hp) (Q:VK) (rs:Reps X.K H ds vs) (o:Out X H (Di h i ds) Q):Az h (.str i) vs H Q:=by
 unfold Di at o
 split at o
 · rename_i j
   obtain ⟨w,rfl,rw'⟩:=bD rs
   cases (show w=.str j from rw')
   exact ⟨i,j,rfl,rfl,o _ H (.refl H) rfl⟩
 · exact o.elim
def Gc (K:ck):R2:=fun x y H Q=>∃ (a b:Addr) (ns:List Int),x=.ref a∧y=.ref b∧SqL K H a (ns.map V.int)∧H b=some (.lst [])∧Q (.bl ns.isEmpty) H
theorem Ep (hu:X.A.units < cLine):OpR X (Hu .Eq) (Gc X.K):=by
 intro pins s σ H x y v u Q I rx ry h
 obtain ⟨a,b,ns,rfl,rfl,h1,h2,q⟩:=h
 cases rx
 cases ry
 obtain ⟨its,r,pl,hz⟩:=I.list h1
 obtain ⟨z2,its2,n2,r2,hl2,e2⟩:=I.lstM h2
 cases r2
 have hb:s.heap.IsList b #[]:=⟨_,e2,rfl,_,rfl⟩
 have hl:=r.length
 cases ns with
 | nil =>
  have e0:its=[]:=by cases its with | nil=>rfl | cons _ _=>simp at hl
  subst e0
  exact SeqAt.eq_listAt (e:=fun _=>true) pl.isList hb rfl hu (fun i hi=>absurd hi (by simp)) (by first | exact ⟨.bl _,H,I,rfl,q⟩ | (refine ⟨.bl _,H,I,?_,q⟩; simp [RelV]))
 | cons n ns =>
  refine SeqAt.eq_list_lengthsAt pl.isList hb ?_ hu ⟨.bl _,H,I,rfl,q⟩
  have:0 < its.length:=by rw [← hl]; simp
  simp
  exact fun z=>by rw [z] at this; simp at this
def Dj:Dv→Dv→Option (Rs Dv)
 | .scr ns,.lst []=>some (.ok (.bl ns.isEmpty))
 | _,_=>none
theorem Er:GOp X (Gc X.K) Dj:=by
 intro dx dy x y H Q rx ry o
 unfold Dj at o
 split at o
 · rename_i ns
   obtain ⟨a,rfl,h1⟩:=rx.scrE
   obtain ⟨b,xs,rfl,h2,h3⟩:=ry.lstE
   cases (show xs=[] from h3)
   exact ⟨a,b,ns,rfl,rfl,h1,h2,o _ H (.refl H) rfl⟩
 · exact o.elim
end
end FD
namespace FD
open PySem
theorem AB:Iq (a_ "str")=some (.type "str"):=PyProof.Rows.boot_str
theorem uj:Iq (a_ "tuple")=some (.type "tuple"):=by decide +kernel
theorem xl:Iq (a_ "bool")=some (.type "bool"):=by decide +kernel
end FD
namespace FD
open PySem PySem.Spec PyProof.Rows L2
mutual
def bN:Dv→PyData
 | .non=>.none
 | .bl b=>.bool b
 | .int i=>.int i
 | .str x=>.str x
 | .tup xs=>.tuple (toPys xs)
 | .lst xs=>.list (toPys xs)
 | .scr ns=>.list (ns.map PyData.int)
 | .exn _=>.dict []
def toPys:List Dv→List PyData
 | []=>[]
 | d :: ds=>bN d :: toPys ds
end
section
variable {X:Cx} {pins:List (Addr×Obj)} {σ:L2.St} {H:Hp} {s:c_}
theorem iO:∀ {ns:List Int} {us:List Value},Vals (ns.map V.int) us→∃ as,ReadsAll s.heap us (ns.map PyData.int) as
 | [],us,r=>by cases r; exact ⟨_,.nil⟩
 | n :: ns,us,r=>by
  cases r with
  | cons r1 r2 =>
   obtain ⟨t,rfl⟩:=r1
   obtain ⟨as,q⟩:=iO r2
   exact ⟨_,.cons (.int n t) q⟩
mutual
theorem Rep.reads (I:Inv X pins σ H s):∀ (d:Dv) (v:V) (u:Value),Rep X.K H d v→RelV v u→(bN d).canLay0=true→∃ as,Reads s.heap u (bN d) as
 | .non,v,u,r,q,hz0=>by cases (show v=.non from r); cases (show u=E_ from q); exact ⟨_,.none⟩
 | .bl b,v,u,r,q,hz0=>by cases (show v=.bl b from r); cases (show u=Ig b from q); exact ⟨_,.bool b⟩
 | .int i,v,u,r,q,hz0=>by cases (show v=.int i from r); obtain ⟨t,rfl⟩:=(show ∃ t,u=OR i t from q); exact ⟨_,.int i t⟩
 | .str x,v,u,r,q,hz0=>by cases (show v=.str x from r); obtain ⟨t,rfl⟩:=(show ∃ t,u=IB x t from q); exact ⟨_,.str x t⟩
 | .tup ds,v,u,r,q,hz0=>by
  obtain ⟨a,xs,rfl,h,rs⟩:=r.tupE
  cases (show u=xy a from q)
  obtain ⟨its,rv,⟨o,e,c,n,d⟩,hz⟩:=I.tuple (SqT.of h)
  obtain ⟨as,ra⟩:=Reps.reads I ds xs its rs rv (by simpa [bN,HQ] using hz0)
  exact ⟨as,.tuple e c d (by simpa using ra)⟩
 | .lst ds,v,u,r,q,hz0=>by
  obtain ⟨a,xs,rfl,h,rs⟩:=r.lstE
  cases (show u=xy a from q)
  obtain ⟨z,its,n,rv,hl,e⟩:=I.lstM h
  obtain ⟨as,ra⟩:=Reps.reads I ds xs its rs rv (by simpa [bN,HQ] using hz0)
  exact ⟨a :: as,.list e rfl rfl (by simpa using ra)⟩
 | .scr ns,v,u,r,q,hz0=>by
  obtain ⟨a,rfl,h⟩:=r.scrE
  cases (show u=xy a from q)
  obtain ⟨its,rv,⟨o,n,e,c,hd,d⟩,hz⟩:=I.list h
  obtain ⟨as,ra⟩:=iO (s:=s) rv
  exact ⟨a :: as,.list e c d (by simpa using ra)⟩
 | .exn c,v,u,r,q,hz0=>by simp [bN,HQ] at hz0
theorem Reps.reads (I:Inv X pins σ H s):∀ (ds:List Dv) (vs:List V) (us:List Value),Reps X.K H ds vs→Vals vs us→IZ (toPys ds)=true→∃ as,ReadsAll s.heap us (toPys ds) as
 | [],vs,us,r,q,_=>by cases (show vs=[] from r); cases q; exact ⟨_,.nil⟩
 | d :: ds,vs,us,r,q,hz0=>by
  obtain ⟨v,ws,rfl,r1,r2⟩:∃ v us,vs=v :: us∧Rep X.K H d v∧Reps X.K H ds us:=r
  cases q with
  | cons q1 q2 =>
   have hz1:(bN d).canLay0=true∧IZ (toPys ds)=true:=by simpa [toPys,IZ] using hz0
   obtain ⟨as,a⟩:=Rep.reads I d v _ r1 q1 hz1.1
   obtain ⟨bs,b⟩:=Reps.reads I ds ws _ r2 q2 hz1.2
   exact ⟨_,.cons a b⟩
end
end
section
variable {X:Cx}
def okP (d:Dv):Bool:=SeqAt.shaped (bN d)
def rPy (X:Cx) (neg:Bool):R2:=fun x y H Q=>∃ dx dy,Rep X.K H dx x∧Rep X.K H dy y∧okP dx=true∧okP dy=true∧Q (.bl (if neg then !HZ (bN dx) (bN dy) else HZ (bN dx) (bN dy))) H
theorem AC (hu:X.A.units + 64 < cLine):OpR X (Hu .Eq) (rPy X false):=by
 intro pins s σ H x y v u Q I rx ry h
 obtain ⟨dx,dy,qx,qy,hx,hy,q⟩:=h
 obtain ⟨as,ra⟩:=Rep.reads I dx x v qx rx (IS.mp hx).1
 obtain ⟨bs,rb⟩:=Rep.reads I dy y u qy ry (IS.mp hy).1
 exact SeqAt.compareEq_shaped ra rb hx hy hu ⟨.bl _,H,I,rfl,q⟩
theorem AD (hu:X.A.units + 64 < cLine):OpR X (Hu .NotEq) (rPy X true):=by
 intro pins s σ H x y v u Q I rx ry h
 obtain ⟨dx,dy,qx,qy,hx,hy,q⟩:=h
 obtain ⟨as,ra⟩:=Rep.reads I dx x v qx rx (IS.mp hx).1
 obtain ⟨bs,rb⟩:=Rep.reads I dy y u qy ry (IS.mp hy).1
 exact SeqAt.compareNe_shaped ra rb hx hy hu ⟨.bl _,H,I,rfl,q⟩
def eqX (x y:Dv):Option (Rs Dv):=match eqS x y with
 | some b=>some (.ok (.bl b))
 | none=>if okP x && okP y then some (.ok (.bl (HZ (bN x) (bN y)))) else none
def neX (x y:Dv):Option (Rs Dv):=match eqS x y with
 | some b=>some (.ok (.bl (!b)))
 | none=>if okP x && okP y then some (.ok (.bl (!HZ (bN x) (bN y)))) else none
def Gd (X:Cx):R2:=fun x y H Q=>rEq x y H Q∨rPy X false x y H Q
def Ge (X:Cx):R2:=fun x y H Q=>rNe x y H Q∨rPy X true x y H Q
theorem AE (hu:X.A.units + 64 < cLine):OpR X (Hu .Eq) (Gd X):=op_eq.or (AC hu)
theorem Es (hu:X.A.units + 64 < cLine):OpR X (Hu .NotEq) (Ge X):=op_ne.or (AD hu)
theorem AF:GOp X (Gd X) eqX:=by
 intro dx dy x y H Q rx ry o
 unfold eqX at o
 split at o
 · rename_i b hb
   obtain ⟨h1,h2⟩:=vR rx ry hb
   exact .inl ⟨h1,by rw [h2]; exact o _ H (.refl H) rfl⟩
 · split at o
   · rename_i hc
     rw [j_] at hc
     exact .inr ⟨dx,dy,rx,ry,hc.1,hc.2,o _ H (.refl H) rfl⟩
   · exact o.elim
theorem Et:GOp X (Ge X) neX:=by
 intro dx dy x y H Q rx ry o
 unfold neX at o
 split at o
 · rename_i b hb
   obtain ⟨h1,h2⟩:=vR rx ry hb
   exact .inl ⟨h1,by rw [h2]; exact o _ H (.refl H) rfl⟩
 · split at o
   · rename_i hc
     rw [j_] at hc
     exact .inr ⟨dx,dy,rx,ry,hc.1,hc.2,o _ H (.refl H) rfl⟩
   · exact o.elim
def ltX:Dv→Dv→Option (Rs Dv)
 | .int i,.int j=>some (.ok (.bl (decide (i < j))))
 | .str x,.str y=>some (.ok (.bl (decide (x.cps.toList < y.cps.toList))))
 | _,_=>none
def Gf:R2:=fun x y H Q=>rI0 (fun i j=>.bl (decide (i < j))) x y H Q∨∃ i j,x=.str i∧y=.str j∧Q (.bl (decide (i.cps.toList < j.cps.toList))) H
theorem AG:OpR X (Hu .Lt) Gf:=op_lt.or pX
theorem AH:GOp X Gf ltX:=by
 intro dx dy x y H Q rx ry o
 cases dx <;> cases dy <;> try exact (show False from o).elim
 · rename_i i j
   exact .inl ⟨i,j,rx,ry,o _ H (.refl H) rfl⟩
 · rename_i i j
   exact .inr ⟨i,j,rx,ry,o _ H (.refl H) rfl⟩
theorem km:∀ (ps:List Str) (k:Nat),Vals (ps.map V.str) (strsFrom k ps)
 | [],_=>.nil
 | p :: ps,k=>.cons ⟨k,rfl⟩ (km ps (k + 1))
theorem ko {K:ck} {H:Hp}:∀ ps:List Str,Reps K H (ps.map Dv.str) (ps.map V.str)
 | []=>rfl
 | p :: ps=>⟨.str p,ps.map V.str,rfl,rfl,ko ps⟩
def iP:Str→List Dv→Option (Rs Dv)
 | x,[.str y]=>if y.length≠0∧x.length≤100000∧(Lh x y).length≤100000 then some (.ok (.lst ((Lh x y).map Dv.str))) else none
 | _,_=>none
def vV:V→List V→Hp→VK→Prop:=fun x xs H Q=>∃ i j,x=.str i∧xs=[.str j]∧j.length≠0∧i.length≤sizeLine∧(Lh i j).length≤sizeLine∧∀ p,H p=none→Q (.ref p) (upd H p (.lst ((Lh i j).map V.str)))
theorem ul:MtR X "str.split" vV:=by
 intro pins s σ H x xs v us Q I rx rs h
 obtain ⟨i,j,rfl,rfl,hj,hi,hn,q⟩:=h
 obtain ⟨t,rfl⟩:=rx
 obtain ⟨u,rfl,ru⟩:=cT rs
 obtain ⟨t',rfl⟩:=ru
 have hy:(j.length == 0)=false:=by simpa using hj
 have one:∀ {s':c_},s'={ s with heap:=s.heap.push { cls:=.type "list",data:=.seq [IB i t].toArray } }→Lh i j=[i]→EP X pins σ Q (.ref s.heap.objs.size) s':=fun e e2=>by
  subst e
  rw [e2] at q
  exact ⟨.ref _,_,I.lnew (its:=[IB i t]) (ys:=[V.str i]) (t':=s.toks) (.cons ⟨t,rfl⟩ .nil) (by show 1≤sizeLine; decide),rfl,q _ I.fresh⟩
 cases h1:(decide (i.length < j.length) || decide (N1 i < N1 j))
 · cases hf:(Hx i j 0 i.length (i.length + 1)).isEmpty
   · have e2:Lh i j=Builtin.Str.partsBetween i (Hx i j 0 i.length (i.length + 1)) j.length:=by
      unfold Lh
      rw [if_neg (by rw [h1]; exact pi),if_neg (by rw [hf]; exact pi)]
     rw [e2] at q hn
     refine JQ Ll (Lc _ _ _) MF (Mp _ _) (meets_str_split_sep i j t t' h1 hy hf hi hn) ?_
     exact ⟨.ref _,_,I.lnew (t':=_) (km _ _) (by rw [HF]; exact hn),rfl,q _ I.fresh⟩
   · refine JQ Ll (Lc _ _ _) MF (Mp _ _) (meets_str_split_not_found i j t t' h1 hy hf) ?_
     exact one rfl (by unfold Lh; rw [if_neg (by rw [h1]; exact pi),if_pos hf])
 · refine JQ Ll (Lc _ _ _) MF (Mp _ _) (meets_str_split_cannot_occur i j t t' h1) ?_
   exact one rfl (by unfold Lh; rw [if_pos h1])
theorem xn (i:Str) (ds:List Dv) (vs:List V) (H:Hp) (Q:VK) (rs:Reps X.K H ds vs) (o:Out X H (iP i ds) Q):vV (.str i) vs H Q:=by
 unfold iP at o
 split at o
 · rename_i j
   split at o
   · rename_i hc
     obtain ⟨w,rfl,rw'⟩:=bD rs
     cases (show w=.str j from rw')
     exact ⟨i,j,rfl,rfl,hc.1,ba hc.2.1,ba hc.2.2,fun p hp=>o _ _ (aq hp _) ⟨p,_,rfl,ak,ko _⟩⟩
   · exact o.elim
 · exact o.elim
def oR:List Dv→Option (List Str)
 | []=>some []
 | .str x :: r=>(match oR r with | some xs=>some (x :: xs) | none=>none)
 | _=>none
def qr:Str→List Dv→Option (Rs Dv)
 | x,[.lst ds]=>(match oR ds with
  | some ts=>if JoinOk x ts=true then some (.ok (.str (Txt.join x ts))) else none
  | none=>none)
 | _,_=>none
def AI (K:ck):V→List V→Hp→VK→Prop:=fun x xs H Q=>∃ i a vs ds ts,x=.str i∧xs=[.ref a]∧H a=some (.lst vs)∧Reps K H ds vs∧oR ds=some ts∧JoinOk i ts=true∧Q (.str (Txt.join i ts)) H
theorem iQ {K:ck} {H:Hp}:∀ {ds:List Dv} {vs:List V} {us:List Value} {ts:List Str},Reps K H ds vs→Vals vs us→oR ds=some ts→∃ l:List (Str×Tok),us=strValues l∧l.map (·.1)=ts
 | [],vs,us,ts,r,q,h=>by
  cases (show vs=[] from r)
  cases q
  cases h
  exact ⟨[],rfl,rfl⟩
 | d :: ds,vs,us,ts,r,q,h=>by
  obtain ⟨v,ws,rfl,r1,r2⟩:∃ v us,vs=v :: us∧Rep K H d v∧Reps K H ds us:=r
  cases q with
  | cons q1 q2 =>
   cases d <;> try (cases h; done)
   rename_i b
   simp only [oR] at h
   cases hb:oR ds with
   | none=>rw [hb] at h; cases h
   | some bs' =>
    rw [hb] at h
    cases h
    cases (show v=.str b from r1)
    obtain ⟨t,rfl⟩:=q1
    obtain ⟨l,e1,e2⟩:=iQ r2 q2 hb
    exact ⟨(b,t) :: l,by rw [e1]; rfl,by rw [y_,e2]⟩
theorem xo:MtR X "str.join" (AI X.K):=by
 intro pins s σ H x xs v us Q I rx rs h
 obtain ⟨i,a,vs,ds,ts,rfl,rfl,h1,h2,h3,h4,q⟩:=h
 obtain ⟨t,rfl⟩:=rx
 obtain ⟨u,rfl,ru⟩:=cT rs
 cases ru
 obtain ⟨z,its,n,rv,hl,e⟩:=I.lstM h1
 obtain ⟨l,e1,e2⟩:=iQ h2 rv h3
 subst e1
 exact SC.join ⟨_,e,rfl,_,rfl⟩ e2 h4 fun t' k=>⟨.str _,H,I.tok _,⟨_,rfl⟩,q⟩
theorem AJ (i:Str) (ds:List Dv) (vs:List V) (H:Hp) (Q:VK) (rs:Reps X.K H ds vs) (o:Out X H (qr i ds) Q):AI X.K (.str i) vs H Q:=by
 unfold qr at o
 split at o
 · rename_i es
   split at o
   · rename_i ts ht
     split at o
     · rename_i hj
       obtain ⟨w,rfl,rw'⟩:=bD rs
       obtain ⟨a,xs,rfl,h1,h2⟩:=rw'.lstE
       exact ⟨i,a,xs,es,ts,rfl,rfl,h1,h2,ht,hj,o _ H (.refl H) rfl⟩
     · exact o.elim
   · exact o.elim
 · exact o.elim
def um:Str→List Dv→Option (Rs Dv)
 | x,[.str y]=>if y.length≠0∧x.length≤100000 then some (.ok (.tup [.str (Js x y).1,.str (Js x y).2.1,.str (Js x y).2.2])) else none
 | _,_=>none
def AK:V→List V→Hp→VK→Prop:=fun x xs H Q=>∃ i j,x=.str i∧xs=[.str j]∧j.length≠0∧i.length≤sizeLine∧∀ p,H p=none→Q (.ref p) (upd H p (.tup [.str (Js i j).1,.str (Js i j).2.1,.str (Js i j).2.2]))
theorem xp:MtR X "str.partition" AK:=by
 intro pins s σ H x xs v us Q I rx rs h
 obtain ⟨i,j,rfl,rfl,hj,hi,q⟩:=h
 obtain ⟨t,rfl⟩:=rx
 obtain ⟨u,rfl,ru⟩:=cT rs
 obtain ⟨t',rfl⟩:=ru
 have hy:(j.length == 0)=false:=by simpa using hj
 have fin:∀ (a b c:Str) (ta tb tc:Tok) (k:Nat),Js i j=(a,b,c)→EP X pins σ Q (.ref s.heap.objs.size) { s with toks:=k,heap:=s.heap.push { cls:=.type "tuple",data:=.seq [IB a ta,.str b tb,.str c tc].toArray } }:=fun a b c ta tb tc k e=>by
  rw [e] at q
  refine ⟨.ref _,_,I.laid (t':=k) (fun b u e=>e_ _ e) (n_ _) ?_,rfl,q _ I.fresh⟩
  exact ⟨by show 3≤sizeLine; decide,[IB a ta,.str b tb,.str c tc],.cons ⟨_,rfl⟩ (.cons ⟨_,rfl⟩ (.cons ⟨_,rfl⟩ .nil)),⟨_,i_ _ rfl,rfl,_,rfl⟩⟩
 refine JQ MX (Lc _ _ _) F.entry_str_partition (F.args_str_partition_2 _ _) (meets_str_partition i j t t' hy hi) ?_
 cases ho:Hx i j 0 i.length 1 with
 | nil=>exact fin _ _ _ _ _ _ _ (by unfold Js; rw [ho])
 | cons k r=>exact fin _ _ _ _ _ _ _ (by unfold Js; rw [ho])
theorem AM (i:Str) (ds:List Dv) (vs:List V) (H:Hp) (Q:VK) (rs:Reps X.K H ds vs) (o:Out X H (um i ds) Q):AK (.str i) vs H Q:=by
 unfold um at o
 split at o
 · rename_i j
   split at o
   · rename_i hc
     obtain ⟨w,rfl,rw'⟩:=bD rs
     cases (show w=.str j from rw')
     exact ⟨i,j,rfl,rfl,hc.1,ba hc.2,fun p hp=>o _ _ (aq hp _) ⟨p,_,rfl,ak,⟨_,_,rfl,rfl,_,_,rfl,rfl,_,_,rfl,rfl,rfl⟩⟩⟩
   · exact o.elim
 · exact o.elim
variable {p pos:Pos} {e:Expr} {es:List Expr} {ga:FnA}
def ei:List Dv→Option (Rs Dv)
 | [.lst xs]=>some (.ok (.tup xs))
 | [.tup xs]=>some (.ok (.tup xs))
 | _=>none
theorem uo (hg:Gl X "tuple") (hm:X.mg "tuple"=none) (ha:FA X (e :: es) ga) (he:f_ (e :: es) X.env=(false,eval e X.env) :: f_ es X.env:=by kernel_rfl) (hpl:(Ho pos (f_ es X.env)).any (·.1)=false:=by kernel_rfl):FE X (.Call (.Name "tuple" p) (e :: es) [] pos) (fB1 ei ga) :=
 bO (gO jp hg hm (by decide +kernel) ha.h (by decide) (by decide) he hpl) fun σ H Q ρ E o=>⟨ρ,E,OutA.bind o fun ds vs H1 e1 rs o1=>by
  unfold ei at o1
  split at o1
  · rename_i xs
    obtain ⟨v,rfl,r⟩:=bD rs
    obtain ⟨a,ws,rfl,h1,h2⟩:=r.lstE
    exact ⟨a,ws,rfl,.inl ⟨SqL.of h1,fun l hl=>o1 _ _ (aq hl _) ⟨l,ws,rfl,ak,Reps.mono (aq hl _) _ _ h2⟩⟩⟩
  · rename_i xs
    obtain ⟨v,rfl,r⟩:=bD rs
    obtain ⟨a,ws,rfl,h1,h2⟩:=r.tupE
    exact ⟨a,ws,rfl,.inr ⟨SqT.of h1,o1 _ H1 (.refl H1) ⟨a,ws,rfl,h1,h2⟩⟩⟩
  · exact o1.elim⟩
end
section
variable {X:Cx} {apos cpos:Pos} {e o:Expr} {es:List Expr} {ga:FnA} {fo:FnE}
def Dk (x:Dv):List Dv→Nat→Option Nat
 | [],_=>none
 | y :: ys,k=>if eqF y x then some k else Dk x ys (k + 1)
def Dl:List Dv→List Dv→Option (Rs Dv)
 | xs,[x]=>if cg x && xs.all cg && decide (xs.length≤100000) then (match Dk x xs 0 with | some j=>some (.ok (.int j)) | none=>none) else none
 | _,_=>none
theorem qs {K:ck} {H:Hp} {x:Dv} {u:V} (q:Rep K H x u) (hx:cg x=true):∀ {xs:List Dv} {vs:List V} {k j:Nat},Reps K H xs vs→xs.all cg=true→Dk x xs k=some j →
 k≤j∧(∃ v,vs[j - k]?=some v∧eqV v u=true)∧∀ (m:Nat) v,m < j - k→vs[m]?=some v→eqV v u=false
 | [],vs,k,j,r,_,h=>by cases h
 | y :: ys,vs,k,j,r,hf,h=>by
  obtain ⟨v,ws,rfl,r1,r2⟩:∃ v us,vs=v :: us∧Rep K H y v∧Reps K H ys us:=r
  rw [Im,j_] at hf
  unfold Dk at h
  have e1:=qo r1 q hf.1 hx
  split at h
  · rename_i hh
    cases h
    refine ⟨n_ _,⟨v,by simp,by rw [e1]; exact hh⟩,fun m w hm=>by omega⟩
  · rename_i hh
    obtain ⟨a,⟨w,b1,b2⟩,c⟩:=qs q hx r2 hf.2 h
    refine ⟨by omega,⟨w,?_,b2⟩,fun m z hm hz=>?_⟩
    · have e:j - k=(j - (k + 1)) + 1:=by omega
      rw [e,Lk]
      exact b1
    · cases m with
      | zero =>
       have:z=v:=by simpa using hz.symm
       subst this
       rw [e1]
       simpa using hh
      | succ m=>exact c m z (by omega) (by simpa using hz)
def AN:V→List V→Hp→VK→Prop:=fun x xs H Q=>∃ a vs y j,x=.ref a∧xs=[y]∧H a=some (.lst vs)∧dk y=true∧vs.all dk=true∧vs.length≤100000∧(∃ v,vs[j]?=some v∧eqV v y=true)∧(∀ (m:Nat) v,m < j→vs[m]?=some v→eqV v y=false)∧Q (.int j) H
theorem vW {y:V} {vs:List V} {its:List Value} (r:Vals vs its) (f:vs.all dk=true) {m:Nat} {v:V} (h:vs[m]?=some v):∃ hm:m < its.length,eqU y its[m]=eqV v y:=by
 obtain ⟨u,hu,ru⟩:=r.get h
 obtain ⟨hm,e⟩:=v_.mp hu
 refine ⟨hm,?_⟩
 rw [e]
 exact mV ru (HV.mp f v (Jk h))
theorem uq:MtR X "list.index" AN:=by
 intro pins s σ H x xs v us Q I rx rs h
 obtain ⟨a,vs,y,j,rfl,rfl,h1,fy,fv,hz,⟨w,hw,hit⟩,hno,q⟩:=h
 cases rx
 obtain ⟨u,rfl,ru⟩:=cT rs
 obtain ⟨z,its,n,rv,hl,e⟩:=I.lstM h1
 obtain ⟨hj,ej⟩:=vW (y:=y) rv fv hw
 refine JQ MY ⟨_,e,rfl⟩ PySem.F.entry_list_index (PySem.F.args_list_index_2 _ _) (SeqAt.list_indexAt a its.toArray n none #[] u (eqU y) j (by simpa using hj) (by omega) (by simpa [ej] using hit) fun m hm hlt=>?_) ⟨e,fun t ht=>c7 ru fy rv fv t (by simpa using ht),⟨.int j,H,I.tok _,⟨_,rfl⟩,q⟩⟩
 have hm':m < vs.length:=by rw [rv.length]; simpa using hm
 obtain ⟨hm2,em⟩:=vW (y:=y) rv fv (u_ hm')
 have:=hno m vs[m] hlt (u_ hm')
 simpa [em] using this
def fML (g:List Dv→List Dv→Option (Rs Dv)) (fo:FnE) (ga:FnA):FnE:=fun ρ=>bnd (fo ρ) fun x=>match x with
 | .lst i=>bnd (ga ρ) fun xs=>g i xs
 | _=>none
theorem ur (ho:FE X o fo) (ha:FA X (e :: es) ga)
 (hbase:IU o "index" X.env (eval o X.env)=eval o X.env:=by kernel_rfl)
 (hfew:((Ho cpos (f_ (e :: es) X.env)).all (fun x=>!x.1) && (Jn cpos (Io [] X.env)).all (fun x=>x.1.isSome)
   && decide ((e :: es).length + ([]:List Jc).length + (if ([]:List Jc).isEmpty then 0 else 1) < 30))=true:=by kernel_rfl)
 (hline:(apos.endLine == cpos.line)=true:=by kernel_rfl) (hs:f_ (e :: es) X.env=(false,eval e X.env) :: f_ es X.env:=by kernel_rfl) (hplain:(Ho cpos (f_ es X.env)).any (·.1)=false:=by kernel_rfl) :
 FE X (.Call (.Attribute o "index" apos) (e :: es) [] cpos) (fML Dl fo ga) :=
 bO (oN Jm MY PySem.F.type_list_index uq ho.h ha.h hbase hfew hline hs hplain) fun σ H Q ρ E o=>⟨ρ,E,Out.bind o fun d v H1 e1 rd o1=>by
  cases d <;> try exact (show False from o1).elim
  rename_i ds
  obtain ⟨a,vs,rfl,h1,h2⟩:=rd.lstE
  refine ⟨.inl ⟨rfl,vs,SqL.of h1⟩,ρ,E.mono e1,OutA.bind o1 fun es ws H2 e2 rs o2=>?_⟩
  unfold Dl at o2
  split at o2
  · rename_i x
    split at o2
    · rename_i hc
      rw [j_,j_] at hc
      split at o2
      · rename_i j hj
        obtain ⟨w,rfl,rw'⟩:=bD rs
        have h2':=Reps.mono e2 _ _ h2
        obtain ⟨c1,c2,c3⟩:=qs rw' hc.1.1 h2' hc.1.2 hj
        refine ⟨a,vs,w,j,rfl,rfl,e2 _ _ h1,jr rw' hc.1.1,gz h2' hc.1.2,by rw [h2.length]; exact of_decide_eq_true hc.2,by simpa using c2,by simpa using c3,o2 _ H2 (.refl H2) rfl⟩
      · exact o2.elim
    · exact o2.elim
  · exact o2.elim⟩
end
structure FG (X:Cx) (tg:Expr) (b:Dv→Ev→Option Ev):Prop where
 h:∀ (pins:List (Addr×Obj)) (s:c_) (σ:L2.St) (H:Hp) (v:V) (u:Value) (d:Dv) (ρ ρ':Ev),Inv X pins σ H s→RelV v u→Rep X.K H d v→Envs X.K H σ ρ→b d ρ=some ρ' →
  k_ (p_ X.prog X.w) X.A (Ml tg X.env u) (fun _ s'=>∃ σ' H',Inv X pins σ' H' s'∧Same H H'∧Envs X.K H' σ' ρ') X.xe s
def gN (i:Nat):Dv→Ev→Option Ev:=fun d ρ=>some (ρ.set i (some d))
def gP (i j:Nat):Dv→Ev→Option Ev:=fun d ρ=>match d with
 | .tup [a,c]=>some ((ρ.set i (some a)).set j (some c))
 | _=>none
section
variable {X:Cx} {pos p1 p2:Pos}
theorem xq (i:Nat) {x:Str} (hN:X.N.Nodup) (hi:X.N[i]?=some x) (hx:Loc X.env.scope x) (hf:X.fn x=true∨X.env.scope.names.lookup x=some .local):FG X (.Name x pos) (gN i) :=
 ⟨fun pins s σ H v u d ρ ρ' I r rd E e=>by
  cases e
  exact thn (dw hN hi hx hf pins s σ H v u (fun σ' H'=>H'=H∧σ'=σ.set i (some v)) I r ⟨rfl,rfl⟩) fun _ s' ⟨σ',H',I',e1,e2⟩=>by
   subst e1 e2
   exact ⟨_,_,I',.refl _,E.set rd⟩⟩
theorem xr (i j:Nat) {x y:Str} {k:Nat} (hc:X.calm=true) (hN:X.N.Nodup) (hi:X.N[i]?=some x) (hx:Loc X.env.scope x) (hf:X.fn x=true∨X.env.scope.names.lookup x=some .local)
 (hj:X.N[j]?=some y) (hy:Loc X.env.scope y) (hg:X.fn y=true∨X.env.scope.names.lookup y=some .local)
 (hs1:(Ie [.Name x p1,.Name y p2] X.env).map (·.2)=Ml (.Name x p1) X.env :: (Ie [.Name y p2] X.env).map (·.2):=by kernel_rfl) (hs2:(Ie [.Name y p2] X.env).map (·.2)=Ml (.Name y p2) X.env :: (Ie [] X.env).map (·.2):=by kernel_rfl)
 (hn:(Ie [.Name x p1,.Name y p2] X.env).length=2:=by kernel_rfl) (hst:(Ie [.Name x p1,.Name y p2] X.env).findIdx? (·.1)=none:=by kernel_rfl):FG X (.Tuple [.Name x p1,.Name y p2] k pos) (gP i j) :=
 ⟨fun pins s σ H v u d ρ ρ' I r rd E e=>by
  unfold gP at e
  split at e
  · rename_i a c
    cases e
    obtain ⟨ad,xs,rfl,h1,h2⟩:=rd.tupE
    obtain ⟨va,vc,rfl,ra,rc⟩:=Aw h2
    refine thn (vK (n:=2) hc (jm (dw (i:=i) hN hi hx hf) (jm (dw (i:=j) hN hj hy hg) pP hs2) hs1) hn hst pins s σ H _ u (fun σ' H'=>H'=H∧σ'=(σ.set i (some va)).set j (some vc)) I r ⟨ad,_,rfl,SqT.of h1,rfl,va,[vc],rfl,vc,[],rfl,rfl,rfl,rfl⟩) fun _ s' ⟨σ',H',I',e1,e2⟩=>?_
    subst e1 e2
    exact ⟨_,_,I',.refl _,(E.set ra).set rc⟩
  · cases e⟩
end
structure WkG (K:ck) (J:It) (ds:List Dv) (H0:Hp):Prop where
 go:∀ i H,Same H0 H→i < ds.length→J.go i H
 stop:∀ H,Same H0 H→J.stop ds.length H
 yld:∀ i H x H',Same H0 H→i < ds.length→J.yld i H x H'→Same H H'∧∃ d,ds[i]?=some d∧Rep K H' d x
theorem Wk.toG {K:ck} {J:It} {ds:List Dv} {H0:Hp} (w:Wk K J ds H0):WkG K J ds H0 :=
 ⟨w.go,w.stop,fun i H x H' e hi y=>by
  obtain ⟨rfl,d,h1,h2⟩:=w.yld i H x H' e hi y
  exact ⟨.refl _,d,h1,h2⟩⟩
def OutG (X:Cx) (H:Hp) (o:Option (Rs (List Dv))) (R:It→Hp→Prop):Prop:=match o with
 | none=>False
 | some (.exc c)=>XW X c H
 | some (.ok ds)=>∀ J H',Same H H'→WkG X.K J ds H'→R J H'
theorem OutG.mono {X:Cx} {H H':Hp} {R:It→Hp→Prop} (e:Same H H'):∀ {o:Option (Rs (List Dv))},OutG X H o R→OutG X H' o R
 | none,h=>h
 | some (.exc _),h=>XW.mono h e
 | some (.ok _),h=>fun v H1 e1 r=>h v H1 (e.trans e1) r
structure FIG (X:Cx) (tg iter:Expr) (f:FnA):Prop where
 h:PI X tg iter fun σ H R=>∃ ρ,Envs X.K H σ ρ∧OutG X H (f ρ) R
theorem FI.toG {X:Cx} {tg iter:Expr} {f:FnA} (h:FI X tg iter f):FIG X tg iter f :=
 ⟨fun pins s σ H R I ⟨ρ,E,o⟩=>h.h pins s σ H R I ⟨ρ,E,by
  match hf:f ρ,o with
  | some (.exc c),o=>exact o
  | some (.ok ds),o=>exact fun J H' e w=>o J H' e w.toG⟩⟩
def dv (m:Nat) (cs:List (Str×Nat)) (ρ:Ev):Ev:=q_ m none ++ cs.map fun c=>(ρ[c.2]?).join
def fL (b:Dv→Ev→Option Ev) (tst:Option FnB) (elt:FnE) (cap:Ev):List Dv→Option (List Dv)
 | []=>some []
 | d :: ds=>match b d cap with
  | none=>none
  | some ρ=>match (match tst with | none=>(some (.ok true):Option (Rs Bool)) | some t=>t ρ) with
   | some (.ok true)=>(match elt ρ with
    | some (.ok y)=>(match fL b tst elt cap ds with | some ys=>some (y :: ys) | none=>none)
    | _=>none)
   | some (.ok false)=>fL b tst elt cap ds
   | _=>none
structure Eu (osc scope:Scope) (cs:List (Str×Nat)) (N:List Str):Prop where
 kind:scope.kind=.function
 cell:∀ y∈scope.names,y.2≠.cell
 names:∀ y∈scope.names,y.2=.local→scope.names.lookup y.1=some .local
 free:∀ y∈scope.names,y.2=.free→osc.names.lookup y.1=some .cell∨osc.names.lookup y.1=some .free
 caps:∀ c∈cs,N[c.2]?=some c.1∧scope.names.lookup c.1=some .free
def kq (m:Nat) (cs:List (Str×Nat)) (σ:L2.St):L2.St:=q_ m none ++ cs.map fun c=>(σ[c.2]?).join
theorem kr {α:Type} {m i:Nat} {v:α} {l:List (Option α)} (h:(q_ m (none:Option α) ++ l)[i]?=some (some v)):∃ k,i=m + k∧l[k]?=some (some v):=by
 by_cases hi:i < m
 · rw [JB (by simpa using hi),Kf,if_pos hi] at h
   cases h
 · refine ⟨i - m,by omega,?_⟩
   rw [I_ (by simpa using hi)] at h
   simpa using h
theorem qt {K:ck} {H:Hp} {σ:L2.St} {ρ:Ev} (m:Nat) (cs:List (Str×Nat)) (E:Envs K H σ ρ):Envs K H (kq m cs σ) (dv m cs ρ):=by
 refine ⟨by simp [kq,dv],fun i d h=>?_⟩
 obtain ⟨k,rfl,hk⟩:=kr h
 rw [Hz] at hk
 cases hc:cs[k]? with
 | none=>rw [hc] at hk; simp at hk
 | some c =>
  rw [hc] at hk
  simp only [JE,KB] at hk
  have h2:ρ[c.2]?=some (some d):=by
   cases q:ρ[c.2]? with
   | none=>rw [q] at hk; simp at hk
   | some o=>rw [q] at hk; simp at hk; rw [hk]
  obtain ⟨v,h3,h4⟩:=E.at' c.2 d h2
  refine ⟨v,?_,h4⟩
  unfold kq
  rw [I_ (by simp)]
  simp only [Jy,M6,Hz,hc,JE,h3]
  rfl
theorem kt {prog:Program} {w:D_} {A:w_} {R:Ng→c_→Prop} {s:c_} {elt target iter:Expr} {ifs:List Expr} {scope:Scope} {pos:Pos} {it acc:Value} {env:Env} (I:Nat→c_→Prop)
 (turn:∀ n s,I n s→k_ (p_ prog w) A (Kw it) (fun r s₁=>match r with
   | none=>R (.ok .next) s₁
   | some v=>k_ (p_ prog w) A (L4 target it v) (fun _ s₀=>k_ (p_ prog w) A (Ml target env v) (fun _ s₂ =>
    k_ (p_ prog w) A (PN ifs true fun c r=>if r=true then do let ok ← isTrue c env (eval c env); pure (L_ ok) else pure (L_ r)) (fun ok s₃ =>
     if ok=true then k_ (p_ prog w) A (eval elt env) (fun x s₄ =>
      k_ (p_ prog w) A (call (.builtin "list.append") [acc,x]) (fun _ s₅=>∃ m,m < n∧I m s₅) (Nc (p_ prog w) A env fun e s'=>R (.error e) s') s₄) (Nc (p_ prog w) A env fun e s'=>R (.error e) s') s₃
     else ∃ m,m < n∧I m s₃) (Nc (p_ prog w) A env fun e s'=>R (.error e) s') s₂) (Nc (p_ prog w) A env fun e s'=>R (.error e) s') s₀) (Nc (p_ prog w) A env fun e s'=>R (.error e) s') s₁) (Nc (p_ prog w) A env fun e s'=>R (.error e) s') s)
 (n:Nat) (h:I n s) :
 Ki (p_ prog w) A (.compLoop (.ListComp elt [⟨target,iter,ifs,0⟩] scope pos) 0 it acc env) R s:=by
 refine codeAny_loop rfl I (fun n s hI=>?_) n h
 show k_ _ A ((compTurn (.ListComp elt [⟨target,iter,ifs,0⟩] scope pos) 0 it acc env).onRaise (fun x=>do OP x env; theTreesLotGoes x)) _ _ s
 refine wpAny_noted ?_
 rw [compTurn_list]
 refine b_ (wpAny_standAt (b_ (HI (turn n s hI) (fun r s₁ h₁=>?_) fun _ _ h'=>h')))
 cases r with
 | none=>exact d_ h₁
 | some v =>
  refine b_ (HI h₁ (fun _ s₀ h₀=>?_) fun _ _ h'=>h')
  refine b_ (HI h₀ (fun _ s₂ h₂=>b_ (HI h₂ (fun ok s₃ h₃=>?_) fun _ _ h'=>h')) fun _ _ h'=>h')
  cases ok with
  | false =>
   rw [if_neg pi] at h₃
   first
    | exact b_ (d_ (d_ ⟨rfl,h₃⟩))
    | exact d_ ⟨rfl,h₃⟩
    | (show k_ _ _ (Pu _) _ _ _; exact d_ ⟨rfl,h₃⟩)
  | true =>
   rw [if_pos rfl] at h₃
   first
    | exact b_ (b_ (HI h₃ (fun x s₄ h₄=>b_ (HI h₄ (fun _ s₅ h₅=>d_ (d_ ⟨rfl,h₅⟩)) fun _ _ h'=>h')) fun _ _ h'=>h'))
    | exact b_ (HI h₃ (fun x s₄ h₄=>b_ (HI h₄ (fun _ s₅ h₅=>d_ ⟨rfl,h₅⟩) fun _ _ h'=>h')) fun _ _ h'=>h')
def aG (m:Nat) (cs:List (Str×Nat)) (src:FnA) (b:Dv→Ev→Option Ev) (tst:Option FnB) (elt:FnE):FnE:=fun ρ=>bnd (src ρ) fun ds=>match fL b tst elt (dv m cs ρ) ds with
 | some ys=>if ys.length≤100000∧ds.length≤100000 then some (.ok (.lst ys)) else none
 | none=>none
theorem Ew {m:Nat} {cs:List (Str×Nat)} {src:FnA} {b:Dv→Ev→Option Ev} {tst:Option FnB} {fe:FnE} {ρ:Ev} {o:Rs Dv} (h:aG m cs src b tst fe ρ=some o) :
 (∃ c,src ρ=some (.exc c)∧o=.exc c)∨∃ ds ys,src ρ=some (.ok ds)∧fL b tst fe (dv m cs ρ) ds=some ys∧ds.length≤100000∧ys.length≤100000∧o=.ok (.lst ys):=by
 unfold aG at h
 match hf:src ρ with
 | none=>rw [hf] at h; cases h
 | some (.exc c)=>rw [hf] at h; cases h; exact .inl ⟨c,rfl,rfl⟩
 | some (.ok ds) =>
  rw [hf] at h
  dsimp only [bnd] at h
  match hm:fL b tst fe (dv m cs ρ) ds with
  | none=>rw [hm] at h; cases h
  | some ys =>
   rw [hm] at h
   dsimp only at h
   split at h
   · rename_i hl
     cases h
     exact .inr ⟨ds,ys,rfl,hm,hl.2,hl.1,rfl⟩
   · cases h
theorem xt (cs:List (Str×Nat)) (ρ:Ev) (d:Dv) (ρ':Ev) (h:gN 0 d (dv 1 cs ρ)=some ρ'):fgt [0] ρ'=dv 1 cs ρ:=by
 cases h
 rfl
theorem AO (cs:List (Str×Nat)) (ρ:Ev) (d:Dv) (ρ':Ev) (h:gP 0 1 d (dv 2 cs ρ)=some ρ'):fgt [0,1] ρ'=dv 2 cs ρ:=by
 unfold gP at h
 split at h
 · cases h
   rfl
 · cases h
def Ite (K:ck) (a:Addr):It :=
 ⟨fun i H=>∃ xs x,SqL K H a xs∧xs[i]?=some x,fun i H v H'=>∃ p x,v=.ref p∧H p=none∧H'=upd H p (.tup [.int i,x])∧∀ xs,SqL K H a xs→xs[i]?=some x,fun i H=>∃ xs,SqL K H a xs∧xs.length≤i⟩
theorem qu {P:Program} {w:D_} {K:ck} {es:List Expr} {k:Nat} {pos:Pos} (a e it:Addr) (hne:e≠it):tQ P w K (.Tuple es k pos) (Ite K a) [e,it] e (fun i h=>(∃ old,Ni h e it i old)∧h.IsListIter it a i) where
 mem:=by simp
 obj:=fun i h st b hb=>by
  obtain ⟨⟨old,he⟩,o,e2,c,d⟩:=st
  have hb':b=e∨b=it:=by simpa using hb
  rcases hb' with rfl | rfl
  · exact ⟨_,he,fun v z=>by cases z⟩
  · exact ⟨o,e2,fun v z=>by rw [d] at z; cases z⟩
 keep:=fun i h h' st kk=>by
  obtain ⟨⟨old,he⟩,st2⟩:=st
  exact ⟨⟨old,kk e (by simp) _ he⟩,st2.at fun o ee=>kk it (by simp) o ee⟩
 item:=by
  intro X hP hw hK hc i pins s σ H E I hf st hg
  subst hP hw hK
  obtain ⟨xs,x,hq,hx⟩:=hg
  obtain ⟨its,rv,p,hz⟩:=I.list hq
  obtain ⟨u,hu,ru⟩:=rv.get hx
  obtain ⟨⟨old,he⟩,st2⟩:=st
  obtain ⟨f0,f1,f2,f3,f4,f5⟩:=hf e (by simp)
  obtain ⟨g0,g1,g2,g3,g4,g5⟩:=hf it (by simp)
  refine wpAny_pyNext_enum_item he st2 p.isList (x:=u) (by simpa using hu) hne fun h' eo st' tp sz kk=>?_
  refine ⟨_,rfl,Mi eo fun h2 he2 sb2=>?_⟩
  have hp:H s.heap.objs.size=none:=I.hok.fresh (n_ _)
  have elt:e < s.heap.objs.size:=o_ he
  have k2:∀ b o,b ∉ [e,it]→s.heap.get? b=some o→h2.get? b=some o:=fun b o hb q=>sb2.extBut b o (fun z=>hb (by simp [z])) (kk b o (fun z=>hb (by simp [z])) (fun z=>hb (by simp [z])) q)
  have tp2:h2.get? s.heap.objs.size=some { cls:=.type "tuple",data:=.seq #[.int i s.toks,u] }:=sb2.extBut _ _ (Kn elt) tp
  have I1:Inv X pins σ (upd H s.heap.objs.size (.tup [.int i,x])) { s with heap:=h2,toks:=s.toks + 1 }:=by
   have nt:∀ b u,H b=some u→b ∉ [e,it]:=fun b u q z=>by
    have z':b=e∨b=it:=by simpa using z
    rcases z' with rfl | rfl
    · rw [f0] at q; cases q
    · rw [g0] at q; cases q
   refine I.step (g':=s.gens) (d':=s.drawn) (ch:=[e,it]) (fun b hb=>?_) (fun b o _ _ hcb q _=>k2 b o hcb q) (fun b o _ _ hcb q _=>⟨o.slots,k2 b o hcb q⟩) (fun b o hcb q n=>?_) (fun b o hcb q=>⟨o,k2 b o hcb q⟩)
    (fun b ys q=>by rw [al (am q hp)]; exact q) (fun b o ys q=>by rw [al (am q hp)]; exact q) (fun b ps q=>⟨#[],by rw [al (am q hp),q]; simp⟩) (fun m hm=>?_) (fun b u2 q=>?_) I.bare
   · have z':b=e∨b=it:=by simpa using hb
     rcases z' with rfl | rfl
     · exact ⟨f3,f1,f4,f5⟩
     · exact ⟨g3,g1,g4,g5⟩
   · rw [al (t_ (o_ q))]; exact n
   · obtain ⟨o,es',ep,ho,r⟩:=hm
     exact ⟨o,es',ep,k2 _ o (fun z=>by
      have z':X.env.locals=e∨X.env.locals=it:=by simpa using z
      rcases z' with z' | z'
      · exact f1 z'.symm
      · exact g1 z'.symm) ho,r⟩
   · by_cases hb:b=s.heap.objs.size
     · subst hb
       rw [ak] at q
       cases q
       exact ⟨by show 2≤sizeLine; decide,[.int i s.toks,u],.cons ⟨_,rfl⟩ (.cons ru .nil),⟨_,tp2,rfl,_,rfl⟩⟩
     · rw [al hb] at q
       refine (I.hok b u2 q).stay (fun c v hcv qq=>k2 c v ?_ qq) (fun c qq=>by rw [al (am qq hp)]; exact qq) fun c ys qq=>by rw [al (am qq hp)]; exact qq
       rcases hcv with rfl | hcv
       · exact nt _ _ q
       · exact nt _ _ hcv
  refine ⟨.ref s.heap.objs.size,_,I1,rfl,⟨_,x,rfl,hp,rfl,fun zs hy=>by rw [I.list_inj hy hq]; exact hx⟩,⟨⟨_,by simpa using he2⟩,?_⟩,fun b hb=>?_⟩
  · exact st'.at fun o q=>sb2.extBut _ _ (IG hne) q
  · have z':b=e∨b=it:=by simpa using hb
    rcases z' with rfl | rfl
    · rw [al (t_ elt)]; exact f0
    · obtain ⟨o,q,_⟩:=id st2
      rw [al (t_ (o_ q))]; exact g0
 done:=by
  intro X hP hw hK hc i pins s σ H E I hf st hg
  subst hP hw hK
  obtain ⟨xs,hq,hx⟩:=hg
  obtain ⟨its,rv,p,hz⟩:=I.list hq
  obtain ⟨⟨old,he⟩,st2⟩:=st
  obtain ⟨g0,g1,g2,g3,g4,g5⟩:=hf it (by simp)
  have hl:=rv.length
  exact wpAny_pyNext_enum_end (I.ok.hd hc) he st2 p.isList (by simp; omega) fun h' eb=>⟨rfl,I.turned (t':=s.toks) (fun b o hb e=>eb b o hb e) g0 g1 g3 g4 g5⟩
 self:=fun _ _ _ _ _ st h=>by
  obtain ⟨⟨old,he⟩,_⟩:=st
  exact Lp he h
def c8:Nat→List Dv→List Dv
 | _,[]=>[]
 | k,d :: ds=>.tup [.int k,d] :: c8 (k + 1) ds
theorem bR:∀ (ds:List Dv) (k:Nat),(c8 k ds).length=ds.length
 | [],_=>rfl
 | d :: ds,k=>by show (c8 (k + 1) ds).length + 1=ds.length + 1; rw [bR]
theorem gW:∀ (ds:List Dv) (k i:Nat) (d:Dv),ds[i]?=some d→(c8 k ds)[i]?=some (.tup [.int ((k + i:Nat):Int),d])
 | [],_,_,_,h=>by simp at h
 | d :: ds,k,0,d',h=>by simp at h; subst h; rfl
 | d :: ds,k,i + 1,d',h=>by
  have q:=gW ds (k + 1) i d' (by simpa using h)
  show (Dv.tup [.int k,d] :: c8 (k + 1) ds)[i + 1]?=_
  rw [Lk,q]
  have e:k + 1 + i=k + (i + 1):=by omega
  rw [e]
theorem xu {K:ck} {H:Hp} {a:Addr} {xs:List V} {ds:List Dv} (h:H a=some (.lst xs)) (r:Reps K H ds xs):WkG K (Ite K a) (c8 0 ds) H where
 go:=fun i H' e hi=>by
  rw [bR] at hi
  have hx:i < xs.length:=by rw [r.length]; exact hi
  exact ⟨xs,xs[i],SqL.of (e _ _ h),by simp [hx]⟩
 stop:=fun H' e=>⟨xs,SqL.of (e _ _ h),by rw [r.length,bR]; exact n_ _⟩
 yld:=fun i H' v H2 e hi y=>by
  obtain ⟨p,x,rfl,hp,rfl,y⟩:=y
  obtain ⟨d,h1,h2⟩:=Reps.get (Reps.mono e _ _ r) (y xs (SqL.of (e _ _ h)))
  have q:=gW ds 0 i d h1
  rw [Jr] at q
  exact ⟨aq hp _,_,q,⟨p,_,rfl,ak,⟨.int i,[x],rfl,rfl,x,[],rfl,Rep.mono (aq hp _) _ _ h2,rfl⟩⟩⟩
def ut:List Dv→Option (Rs (List Dv))
 | [.lst ds]=>some (.ok (c8 0 ds))
 | _=>none
theorem uu {X:Cx} {es:List Expr} {k:Nat} {pt p pos:Pos} {l:Expr} {ga:FnA} (hg:Gl X "enumerate") (hm:X.mg "enumerate"=none) (ha:FA X [l] ga) (hs:f_ [l] X.env=[(false,eval l X.env)]:=by kernel_rfl):FIG X (.Tuple es k pt) (.Call (.Name "enumerate" p) [l] [] pos) (fun ρ=>bnd (ga ρ) ut):=by
 constructor
 intro pins s σ H R I h
 obtain ⟨ρ,E,o⟩:=h
 have key:OutA X H (ga ρ) fun vs H'=>∃ ds,Reps X.K H' ds vs∧OutG X H' (ut ds) R:=by
  match hf:ga ρ,o with
  | some (.exc c),o=>exact o
  | some (.ok ds),o=>exact fun vs H' e rs=>⟨ds,rs,OutG.mono e o⟩
 refine Call_ (dh I hg hm (show Iq "enumerate"=some (.type "enumerate") by decide +kernel) (H_ (thn (ha.h pos pins s σ H _ I ⟨ρ,E,key⟩) fun us s1 ⟨vs,H1,I1,r1,ds,rs,q1⟩=>?_) hs rfl))
 unfold ut at q1
 split at q1
 · rename_i xs
   obtain ⟨v,rfl,rv⟩:=bD rs
   obtain ⟨a,ws,rfl,h1,h2⟩:=rv.lstE
   obtain ⟨u,rfl,ru⟩:=cT r1
   cases ru
   obtain ⟨its,rv',pl,hz⟩:=I1.list (SqL.of h1)
   refine call_enumerate_list pl.isList fun h' he hit hsz kk=>?_
   refine Lp he ?_
   have I2:Inv X pins σ H1 { s1 with heap:=h' }:=I1.kept (t':=s1.toks) kk
   refine ⟨s1.heap.objs.size + 1,[s1.heap.objs.size + 1,s1.heap.objs.size],_,Ite X.K a,H1,rfl,I2,qu a _ _ (O0 _),⟨⟨_,he⟩,hit⟩,fun b hb=>?_,q1 _ H1 (.refl H1) (xu h1 h2)⟩
   have hb':b=s1.heap.objs.size + 1∨b=s1.heap.objs.size:=by simpa using hb
   rcases hb' with rfl | rfl
   · exact I1.fpOk (KQ _) (I1.hok.fresh (KQ _))
   · exact I1.fpOk (n_ _) (I1.hok.fresh (n_ _))
 · exact q1.elim
def Do:List Nat→List V→L2.St→L2.St
 | i :: is,v :: vs,σ=>Do is vs (σ.set i (some v))
 | _,_,σ=>σ
def Ex:List Nat→List Dv→Ev→Ev
 | i :: is,d :: ds,ρ=>Ex is ds (ρ.set i (some d))
 | _,_,ρ=>ρ
def AQ (is:List Nat):TGs:=fun vs σ H Q=>vs.length=is.length∧Q (Do is vs σ) H
section
variable {X:Cx} {pos p1:Pos}
theorem m8 {ts:List Expr} {t t':TGs} (h:PGs X ts t) (w:∀ vs σ H Q,t' vs σ H Q→t vs σ H Q):PGs X ts t' :=
 fun pins s σ H vs us Q I r q=>h pins s σ H vs us Q I r (w vs σ H Q q)
theorem AR:PGs X [] (AQ []):=m8 pP fun vs σ H Q ⟨l,q⟩=>by
 cases vs with
 | nil=>exact ⟨rfl,q⟩
 | cons v r=>cases l
theorem jw (i:Nat) {x:Str} {is:List Nat} {es:List Expr} (hN:X.N.Nodup) (hi:X.N[i]?=some x) (hx:Loc X.env.scope x) (hf:X.fn x=true∨X.env.scope.names.lookup x=some .local) (h:PGs X es (AQ is))
 (hs:(Ie (.Name x p1 :: es) X.env).map (·.2)=Ml (.Name x p1) X.env :: (Ie es X.env).map (·.2):=by kernel_rfl):PGs X (.Name x p1 :: es) (AQ (i :: is)) :=
 m8 (jm (dw (i:=i) hN hi hx hf) h hs) fun vs σ H Q ⟨l,q⟩=>by
  cases vs with
  | nil=>cases l
  | cons v r=>exact ⟨v,r,rfl,(⟨Nat.succ.inj l,q⟩:AQ is r (σ.set i (some v)) H Q)⟩
theorem Envs.setAll {K:ck} {H:Hp}:∀ (is:List Nat) {ds:List Dv} {vs:List V} {σ:L2.St} {ρ:Ev},Envs K H σ ρ→Reps K H ds vs→Envs K H (Do is vs σ) (Ex is ds ρ)
 | [],_,_,_,_,E,_=>E
 | _ :: _,[],vs,_,_,E,r=>by cases (show vs=[] from r); exact E
 | i :: is,d :: ds,vs,σ,ρ,E,r=>by
  obtain ⟨v,us,rfl,h,t⟩:∃ v us,vs=v :: us∧Rep K H d v∧Reps K H ds us:=r
  exact Envs.setAll is (E.set h) t
end
theorem av {a b:FnS} {ρ ρ':Ev} (h:a ρ=some (.nx ρ')):aE a b ρ=b ρ':=by
 unfold aE; rw [h]; rfl
theorem b5 {c:FnB} {f:FnS} {ρ:Ev} (h:c ρ=some (.ok false)):bP c f (fun ρ=>some (.nx ρ)) ρ=some (.nx ρ):=by
 unfold bP; rw [h]; rfl
theorem aX {i:Nat} {v:FnE} {ρ ρ':Ev} {d:Dv} (h:v ρ=some (.ok d)) (e:ρ.set i (some d)=ρ'):bn i v ρ=some (.nx ρ'):=by
 unfold bn; rw [h,← e]; rfl
theorem uv {v:FnE} {ρ:Ev} {d:Dv} (h:v ρ=some (.ok d)):cC v ρ=some (.nx ρ):=by
 unfold cC; rw [h]; rfl
theorem c9 {v:FnE} {ρ:Ev} {d:Dv} (h:v ρ=some (.ok d)):aI v ρ=some (.rt d):=by
 unfold aI; rw [h]; rfl
theorem jx {i:Nat} {js:List Nat} {src:FnA} {body:FnS} {ρ:Ev} {ds:List Dv} (h:src ρ=some (.ok ds)):oP i js src body ρ=dU i js body ds ρ:=by
 unfold oP; rw [h]; rfl
theorem Ey {a b:FnB} {ρ:Ev} (h:a ρ=some (.ok false)):bOr a b ρ=b ρ:=by unfold bOr; rw [h]; rfl
theorem xx {a:FnB} {ρ:Ev} {k:Bool} (h:a ρ=some (.ok k)):di a ρ=some (.ok (!k)):=by unfold di; rw [h]; rfl
theorem dt {f:FnE} {ρ:Ev} {k:Bool} (h:f ρ=some (.ok (.bl k))):fB f ρ=some (.ok k):=by unfold fB; rw [h]; rfl
theorem aY {g:Dv→Dv→Option (Rs Dv)} {f h:FnE} {ρ:Ev} {x y:Dv} (hf:f ρ=some (.ok x)) (hh:h ρ=some (.ok y)):f2 g f h ρ=g x y:=by unfold f2; rw [hf,hh]; rfl
theorem ae {f:FnE} {g:FnA} {ρ:Ev} {x:Dv} {xs:List Dv} (h:f ρ=some (.ok x)) (t:g ρ=some (.ok xs)):aa f g ρ=some (.ok (x :: xs)):=by unfold aa; rw [h,t]; rfl
theorem ar {ρ:Ev}:ah ρ=some (.ok []):=rfl
theorem aR {F:List Dv→Option (Rs Dv)} {n:Nat} {g:FnA} {ρ:Ev} {ds:List Dv} {d:Dv} (h:g ρ=some (.ok ds)) (hl:ds.length=n) (hF:F ds=some (.ok d)):ai F n g ρ=some (.ok d):=by
 unfold ai; rw [h]
 show (if _ then _ else _)=_
 rw [if_pos hl,hF]
theorem lN (F:List Dv→Option (Rs Dv)) {f:FnE} {ρ:Ev} {a d:Dv} (h:f ρ=some (.ok a)) (hF:F [a]=some (.ok d)):ai F 1 (aa f ah) ρ=some (.ok d):=aR (ae h ar) rfl hF
theorem gX (F:List Dv→Option (Rs Dv)) {f g:FnE} {ρ:Ev} {a b d:Dv} (h:f ρ=some (.ok a)) (h':g ρ=some (.ok b)) (hF:F [a,b]=some (.ok d)):ai F 2 (aa f (aa g ah)) ρ=some (.ok d):=aR (ae h (ae h' ar)) rfl hF
theorem jz {g:FnA} {ρ:Ev} {ds:List Dv} (h:g ρ=some (.ok ds)) (hl:ds.length≤100000):cD g ρ=some (.ok (.tup ds)):=by
 unfold cD; rw [h]
 show (if _ then _ else _)=_
 rw [if_pos hl]
theorem AS {f g:FnE} {ρ:Ev} (h:f ρ=some (.ok (.bl true))):gw f g ρ=g ρ:=by unfold gw; rw [h]; rfl
theorem cF {g:List Dv→Option (Rs Dv)} {a:FnA} {ρ:Ev} {ds:List Dv} (h:a ρ=some (.ok ds)):fB1 g a ρ=g ds:=by unfold fB1; rw [h]; rfl
theorem Ez {c:FnB} {f g:FnE} {ρ:Ev} (h:c ρ=some (.ok true)):fIf c f g ρ=f ρ:=by unfold fIf; rw [h]; rfl
theorem EA {c:FnB} {f g:FnE} {ρ:Ev} (h:c ρ=some (.ok false)):fIf c f g ρ=g ρ:=by unfold fIf; rw [h]; rfl
theorem xz {g:FnA} {ρ:Ev} {ds:List Dv} (h:g ρ=some (.ok ds)) (hl:ds.length≤100000):cM g ρ=some (.ok (.lst ds)):=by
 unfold cM; rw [h]
 show (if _ then _ else _)=_
 rw [if_pos hl]
theorem dA {n:Nat} {B:FnS} {ds:List Dv} {d:Dv} (h:B (ds.map some ++ q_ (n - ds.length) none)=some (.rt d)):bg n B ds=some (.ok d):=by
 unfold bg; rw [h]
section
variable {prog:Program} {w:D_} {A:w_} {E:Value→c_→Prop}
end
section
variable {X:Cx} {pos p1:Pos}
end
structure Aft (X:Cx) (e:Addr) (Ts:List Addr) (h h':Heap):Prop where
 keep:∀ b o,h.get? b=some o→b≠e→b ∉ Ts→b ∉ frs X.stack→h'.get? b=some o
 slot:∀ b o,h.get? b=some o→b∈frs X.stack→∃ sl,h'.get? b=some { o with slots:=sl }
section
variable {X:Cx} {pins:List (Addr×Obj)} {σ:L2.St} {H:Hp} {s:c_} {e:Addr} {Ts:List Addr} {h':Heap}
theorem Aft.any {h:Heap} (A:Aft X e Ts h h') {b:Addr} {o:Obj} (q:h.get? b=some o) (n1:b≠e) (n2:b ∉ Ts):∃ sl,h'.get? b=some { o with slots:=sl }:=by
 by_cases hb:b∈frs X.stack
 · exact A.slot b o q hb
 · exact ⟨o.slots,A.keep b o q n1 n2 hb⟩
theorem Inv.aft (I:Inv X pins σ H s) (A:Aft X e Ts s.heap h') (hex:X.ex=[]) (hf:∀ b,b=e∨b∈Ts→H b=none∧X.s₀.heap.get? b=none∧(∀ p∈X.pn ++ pins,p.1≠b)∧∃ o vs,s.heap.get? b=some o∧o.data=.fields vs) :
 Inv X pins σ H { s with heap:=h' }:=by
 have nE:∀ b,H b≠none→b≠e∧b ∉ Ts:=fun b hb=>⟨fun z=>hb (hf b (.inl z)).1,fun z=>hb (hf b (.inr z)).1⟩
 have n0:∀ b o,X.s₀.heap.get? b=some o→b≠e∧b ∉ Ts:=fun b o hb=>⟨fun z=>(by simp:(some o:Option Obj)≠none) (hb.symm.trans (hf b (.inl z)).2.1),fun z=>(by simp:(some o:Option Obj)≠none) (hb.symm.trans (hf b (.inr z)).2.1)⟩
 have nx:∀ b,b ∉ X.ex:=fun b=>by rw [hex]; simp
 have nD:∀ b o,s.heap.get? b=some o→(∀ vs,o.data≠.fields vs)→b≠e∧b ∉ Ts:=fun b o hb hd =>
  have go:(b=e∨b∈Ts)→False:=fun z=>by
   obtain ⟨o',vs,q,d⟩:=(hf b z).2.2.2
   rw [hb] at q
   cases q
   exact hd vs d
  ⟨fun z=>go (.inl z),fun z=>go (.inr z)⟩
 have nS:∀ b∈frs X.stack,H b=none:=I.stkFree
 have cellK:∀ c v,s.heap.IsCell c v→h'.IsCell c v:=fun c v ⟨o,ho,hd⟩=>by
  obtain ⟨n1,n2⟩:=nD c o ho fun vs q=>by rw [hd] at q; cases q
  obtain ⟨sl,q⟩:=A.any ho n1 n2
  exact ⟨_,q,hd⟩
 refine ⟨I.ok,I.os,I.bare,⟨fun b o q n hb hx=>?_,fun b o q n hb hx=>?_,I.base.free,fun b o q hx=>?_,I.base.tups,I.base.frzs,I.base.tbls⟩,?_,fun x c q=>?_,I.free,I.freeC,fun p hp=>?_,fun a o q=>?_,I.len⟩
 · have h1:=I.base.keep b o q n hb hx
   obtain ⟨n1,n2⟩:=n0 b o q
   refine A.keep b o h1 n1 n2 fun z=>?_
   rcases on.mp (I.stkSub b z) with z | z
   · exact absurd z (t_ (x_ (o_ q) I.ok.above))
   · exact hb z
 · obtain ⟨sl,h1⟩:=I.base.slot b o q n hb hx
   obtain ⟨n1,n2⟩:=n0 b o q
   obtain ⟨sl',h2⟩:=A.any h1 n1 n2
   exact ⟨sl',h2⟩
 · obtain ⟨o',h1⟩:=I.base.there b o q hx
   obtain ⟨n1,n2⟩:=n0 b o q
   obtain ⟨sl,h2⟩:=A.any h1 n1 n2
   exact ⟨_,h2⟩
 · obtain ⟨m,⟨o,es,ep,ho,hd,r⟩,hl⟩:=I.loc
   obtain ⟨n1,n2⟩:=nD _ o ho fun vs q=>by rw [hd] at q; cases q
   obtain ⟨sl,q⟩:=A.any ho n1 n2
   refine ⟨m,⟨_,es,ep,q,hd,r⟩,fun i x v e1 e2 e3=>?_⟩
   obtain ⟨u,ru,l⟩:=hl i x v e1 e2 e3
   refine ⟨u,ru,?_⟩
   rcases l with l | ⟨k,c,ec,z⟩
   · exact .inl l
   · exact .inr ⟨k,c,ec,cellK c _ z⟩
 · obtain ⟨v,z⟩:=I.cell x c q
   exact ⟨v,cellK c v z⟩
 · obtain ⟨q,n,ne,nf,d⟩:=I.pin p hp
   have n1:p.1≠e:=(hf e (.inl rfl)).2.2.1 p hp
   have n2:p.1 ∉ Ts:=fun z=>(hf p.1 (.inr z)).2.2.1 p hp rfl
   refine ⟨A.keep p.1 p.2 q n1 n2 fun z=>?_,n,ne,nf,d⟩
   rcases on.mp (I.stkSub _ z) with z | z
   · exact ne z
   · exact nf z
 · refine (I.hok a o q).stay (fun b u hb hu=>?_) (fun _ z=>z) fun _ _ z=>z
   have hn:H b≠none:=by
    rcases hb with rfl | hb
    · rw [q]; simp
    · rw [hb]; simp
   exact A.keep b u hu (nE b hn).1 (nE b hn).2 fun z=>hn (nS b z)
abbrev hid (X:Cx) (e:Addr) (Ts:List Addr) (h:Heap):Heap:=Pg h (e :: (Ts ++ frs X.stack))
theorem ng (I:Inv X pins σ H s) (k:(hid X e Ts s.heap).StaysIn h') (u:∀ b o,s.heap.get? b=some o→(∀ vs,o.data≠.fields vs)→∃ sl,h'.get? b=some { o with slots:=sl }):Aft X e Ts s.heap h' :=
 ⟨fun b o q n1 n2 n3=>k b o (Ma _ q (by simp only [on,HC]; rintro (z | z | z); exact n1 z; exact n2 z; exact n3 z)),fun b o q hb=>by
  obtain ⟨_,o',q',d⟩:=I.stack.mem hb
  rw [q] at q'
  cases q'
  exact u b o q d⟩
theorem jA (I:Inv X pins σ H s):s.heap.FunFrames (hid X e Ts s.heap) X.stack :=
 PySem.W.funFrames_hide I.stack fun env he a hfa=>l_ _ (r_ _ (Mx.mpr ⟨env,he,hfa⟩))
end
section
variable {X:Cx} {pins:List (Addr×Obj)} {σ:L2.St} {H:Hp} {s:c_} {e:Addr} {cls:Value}
theorem Fly.imp {N N':Addr→Prop} {h:Heap} (F:Fly N H e cls h) (k:∀ a,N a→N' a):Fly N' H e cls h:=by
 obtain ⟨h1,h2,oe,vs,a0,q1,q2,q3,q4,q5⟩:=F
 refine ⟨h1,k _ h2,oe,vs,a0,q1,q2,q3,q4,?_⟩
 rcases q5 with q5 | ⟨T,oT,ts,r1,r2,r3,r4,r5⟩
 · exact .inl q5
 · exact .inr ⟨T,oT,ts,r1,r2,r3,k _ r4,r5⟩
theorem vX {h':Heap} {Ts:List Addr} (I:Inv X pins σ H s) (hex:X.ex=[]) (he:H e=none∧X.s₀.heap.get? e=none) (hT:∀ T∈Ts,H T=none∧X.s₀.heap.get? T=none) (ff:h'.FunFrames (hid X e Ts s.heap) X.stack)
 {T:Addr} {oT:Obj} {ts:Array Value} (hn:(hid X e Ts s.heap).get? T=none) (ne:T≠e) (hg:h'.get? T=some oT) (hd:oT.data=.fields ts):H T=none∧X.s₀.heap.get? T=none:=by
 have nf:T ∉ frs X.stack:=fun z=>by
  obtain ⟨_,o,q,d⟩:=ff.mem z
  rw [hg] at q
  cases q
  exact d ts hd
 have out:T∈Ts∨s.heap.get? T=none:=by
  cases q:s.heap.get? T with
  | none=>exact .inr rfl
  | some o =>
   by_cases hm:T∈Ts
   · exact .inl hm
   · have:=Ma (e :: (Ts ++ frs X.stack)) q (by simp only [on,HC]; rintro (z | z | z); exact ne z; exact hm z; exact nf z)
     rw [hn] at this
     cases this
 rcases out with hm | hm
 · exact hT T hm
 · constructor
   · cases q:H T with
     | none=>rfl
     | some u =>
      have hk:=I.hok T u q
      exfalso
      have:∃ o,s.heap.get? T=some o:=by
       clear q
       induction u with
       | lst xs=>obtain ⟨_,_,_,_,z⟩:=hk; exact ⟨_,z⟩
       | tup xs=>obtain ⟨_,_,_,o,z,_⟩:=hk; exact ⟨_,z⟩
       | dK kvs=>obtain ⟨_,_,_,_,o,_,_,z,_⟩:=hk; exact ⟨_,z⟩
       | dT kvs=>obtain ⟨_,_,_,_,o,_,_,z,_⟩:=hk; exact ⟨_,z⟩
       | set S n=>obtain ⟨o,_,_,_,z,_⟩:=hk; exact ⟨_,z⟩
       | ins C dx fs=>obtain ⟨_,_,_,z,_⟩:=hk; exact ⟨_,z⟩
       | own y=>obtain ⟨_,z⟩:=hk; exact ⟨_,z⟩
       | xd fs=>obtain ⟨_,⟨_,_,_,z,_⟩,_⟩:=hk; exact ⟨_,z⟩
       | rng lo hi=>obtain ⟨_,_,_,z⟩:=hk; exact ⟨_,z⟩
       | frz ob u ih=>obtain ⟨z,_⟩:=hk; exact ⟨_,z⟩
       | tbl ps=>exact ⟨_,(show s.heap.get? T=some _ from hk)⟩
       | met f y=>exact ⟨_,(show s.heap.get? T=some _ from hk)⟩
       | ext φ=>obtain ⟨_,⟨_,z⟩,_⟩:=hk; exact ⟨_,z⟩
      obtain ⟨o,z⟩:=this
      rw [hm] at z
      cases z
   · cases q:X.s₀.heap.get? T with
     | none=>rfl
     | some o =>
      obtain ⟨o',z⟩:=I.base.there T o q (by rw [hex]; simp)
      rw [hm] at z
      cases z
theorem qv (I:Inv X pins σ H s) (hex:X.ex=[]) (hst:X.stack=X.env :: X.outer) (hfm:X.env.frame=some X.env.locals) (F:Fly (fun a=>X.s₀.heap.get? a=none) H e cls s.heap)
 {Q:Unit→c_→Prop} {E:Value→c_→Prop} (k:∀ h' Ts,Fly (fun a=>X.s₀.heap.get? a=none) H e cls h'→Aft X e Ts s.heap h'→(∀ b,b=e∨b∈Ts→H b=none∧X.s₀.heap.get? b=none∧∃ o vs,s.heap.get? b=some o∧o.data=.fields vs)→Q () { s with heap:=h' }) :
 k_ (p_ X.prog X.w) X.A (leaving X.env (.ref e)) Q E s:=by
 obtain ⟨f1,f2,oe,vs,a0,q1,q2,q3,q4,q5⟩:=F
 have hfr:X.A.frames=some (X.env :: X.outer):=hst ▸ I.ok.frames
 subst q2
 rcases q5 with q5 | ⟨T,oT,ts,r1,r2,r3,r4,r5,r6,r7⟩
 · have b3:s.heap.FunFrames (hid X e [] s.heap) (X.env :: X.outer):=hst ▸ jA I
   refine wpAny_leaving_firstW (base:=hid X e [] s.heap) hfr b3 hfm q1 (fun b o z=>Kj _ z) (IM _ (g_ ..)) q3 q5 q4 fun h' hL=>?_
   obtain ⟨k1,k2,⟨oe',vs',T,oT,ts,t1,⟨t2,t3⟩,t4,t5,t6,t7,t8,t9,t10⟩,k4⟩:=hL
   have k2':h'.FunFrames (hid X e [] s.heap) X.stack:=hst ▸ k2
   have nT:=vX I hex ⟨f1,f2⟩ (fun _ z=>absurd z (by simp)) k2' t6 t7 t8 t9
   refine k h' [] ⟨f1,f2,oe',vs',a0,t1,t2,t4,t3,.inr ⟨T,oT,ts,t5,t7,nT.1,nT.2,t8,t9,t10⟩⟩ (ng I k1 k4) fun b hb=>?_
   rcases hb with rfl | hb
   · exact ⟨f1,f2,oe,vs,q1,q3⟩
   · cases hb
 · have b3:s.heap.FunFrames (hid X e [T] s.heap) (X.env :: X.outer):=hst ▸ jA I
   have ht:s.heap.TracedW (hid X e [T] s.heap) e oe.cls a0:=⟨oe,vs,T,oT,ts,q1,⟨rfl,q4⟩,q3,r1,IM _ (by simp),r2,r5,r6,r7⟩
   refine wpAny_leaving_nextW (base:=hid X e [T] s.heap) hfr b3 hfm ht (fun b o z=>Kj _ z) (IM _ (g_ ..)) fun h' hL=>?_
   obtain ⟨k1,k2,⟨oe',vs',T',oT',ts',t1,⟨t2,t3⟩,t4,t5,t6,t7,t8,t9,t10⟩,k4⟩:=hL
   have k2':h'.FunFrames (hid X e [T] s.heap) X.stack:=hst ▸ k2
   have nT:=vX I hex ⟨f1,f2⟩ (fun T0 z=>by simp at z; subst z; exact ⟨r3,r4⟩) k2' t6 t7 t8 t9
   refine k h' [T] ⟨f1,f2,oe',vs',a0,t1,t2,t4,t3,.inr ⟨T',oT',ts',t5,t7,nT.1,nT.2,t8,t9,t10⟩⟩ (ng I k1 k4) fun b hb=>?_
   rcases hb with rfl | hb
   · exact ⟨f1,f2,oe,vs,q1,q3⟩
   · simp at hb
     subst hb
     exact ⟨r3,r4,oT,ts,r5,r6⟩
end
def CXE (P:Program) (w:D_):CXT:=fun outer H s E ev s'=>∃ e cls H',ev=.ref e∧s'.os=s.os∧Me s'.gens∧Un (frs outer) [] H H' s.heap s'.heap∧HOk P w H' s'.heap∧Fly (fun a=>s.heap.get? a=none) H' e cls s'.heap∧E cls none H'
def spE (K:ck) (F:List Dv→Option (Rs Dv)) (n:Nat):Sp:=fun vs H Q E=>∃ ds,Reps K H ds vs∧ds.length=n∧match F ds with
 | some (.ok d)=>∀ v H',Same H H'→Rep K H' d v→Q v H'
 | some (.exc c)=>∀ C H',Jp K C_ (xnm c)=some (some (.ref C))→Same H H'→E (.ref C) none H'
 | none=>False
def EX (X:Cx):XK:=fun cv _ H1=>∃ c C,cv=.ref C∧Jp X.K C_ (xnm c)=some (some (.ref C))∧XW X c H1
theorem EB {X:Cx} (hex:X.ex=[]):mR (CXE X.prog X.w) X (EX X):=by
 intro pins σ H s ev s' I ⟨e,cls,H',he,os,bare,un,hok,F,c,C,hcv,hC,hx⟩
 have I':Inv X pins σ H' s':=I.call' (ch:=[]) os un hok bare fun b z=>absurd z (by simp)
 refine hx pins σ H' s' ev (fun _ _ z=>z) I' ⟨e,C,he,hC,hcv ▸ F.imp fun a ha=>⟨?_,fun p hp z=>?_⟩⟩
 · cases q:X.s₀.heap.get? a with
   | none=>rfl
   | some o =>
    obtain ⟨o',z⟩:=I.base.there a o q (by rw [hex]; simp)
    rw [ha] at z
    cases z
 · have:=(I.pin p (Hv _ hp)).1
   rw [z,ha] at this
   cases this
def aZ (F:List Dv→Option (Rs Dv)) (n:Nat) (g:FnA):FnE:=fun ρ=>bnd (g ρ) fun ds=>if ds.length=n then F ds else none
def Dr (P:Program) (w:D_) (K:ck) (mg:Str→Option Value) (base:Heap) (x:Str) (k:Nat) (ps:List Str) (F:List Dv→Option (Rs Dv)):Prop :=
 ∃ f fd,FnOk P w K mg base (CXE P w) k f fd ps (spE K F ps.length)∧mg x=some (.ref f)∧IE K (.ref f)=true∧Binds K fd ps []
section
variable {X:Cx} {k n:Nat} {ps:List Str} {x:Str} {p pos:Pos} {e:Expr} {es:List Expr} {F:List Dv→Option (Rs Dv)} {g:FnA}
theorem uw {k':Nat} (k:Nat) (ps:List Str) (F:List Dv→Option (Rs Dv)) (h:Dr X.prog X.w X.K X.mg X.base x k ps F) (hr:Room k' X.A) (hk:k≤k') (hex:X.ex=[]) (hg:Gl X x) (ha:FA X (e :: es) g) (hn:n=ps.length:=by kernel_rfl) (hdb:(x == ("__debug__":Str))=false:=by kernel_rfl)
 (he:f_ (e :: es) X.env=(false,eval e X.env) :: f_ es X.env:=by kernel_rfl) (hpl:(Ho pos (f_ es X.env)).any (·.1)=false:=by kernel_rfl) :
 FE X (.Call (.Name x p) (e :: es) [] pos) (aZ F n g):=by
 subst hn
 obtain ⟨f,fd,G,hm,hkp,hb⟩:=h
 refine bO (p9 (G.mono hk) hr hg hm hkp hb .nil (EB hex) ha.h hdb he hpl) fun σ H Q ρ E o=>⟨ρ,E,OutA.bind o fun ds vs H' e rs o1=>?_⟩
 show spE X.K F ps.length (vs ++ []) H' Q (EX X)
 rw [JF]
 by_cases hl:ds.length=ps.length
 · rw [if_pos hl] at o1
   refine ⟨ds,rs,hl,?_⟩
   match hF:F ds with
   | none=>rw [hF] at o1; exact o1.elim
   | some (.ok d)=>rw [hF] at o1; exact o1
   | some (.exc c)=>rw [hF] at o1; exact fun C H1 hC e1=>⟨c,C,rfl,hC,XW.mono o1 e1⟩
 · rw [if_neg hl] at o1
   exact o1.elim
end
def j4 (m:Nat) (fb:FnS):List Dv→Option (Rs Dv):=fun ds=>match fb (ds.map some ++ q_ (m - ds.length) none) with
 | some (.nx _)=>some (.ok .non)
 | some (.rt d)=>some (.ok d)
 | some (.exc c)=>some (.exc c)
 | none=>none
theorem EC {P:Program} {w:D_} {K:ck} {mg:Str→Option Value} {base:Heap} {N:List Str} {qual:Str} {scope:Scope} {f:Addr} {cd:Value} {A:w_} {outer:List Env} {s:c_} {H:Hp} {E:XK} {c:Nat}
 (q:∀ C H',Jp K C_ (xnm c)=some (some (.ref C))→Same H H'→E (.ref C) none H'):XW (mS (CXE P w) P w K mg base N qual scope f cd A outer s H E) c H:=by
 intro pins σ H' s1 ev e1 I ⟨e,C,he,hC,F⟩
 subst he
 have F':Fly (fun a=>s.heap.get? a=none) H' e (.ref C) s1.heap:=F.imp fun a ha=>ha.1
 refine qv I rfl rfl rfl F' fun h' Ts F2 A2 hf=>?_
 have I2:=Inv.aft (pins:=[]) (I.pins_of (pins':=[]) fun p hp=>nomatch hp) A2 rfl fun b hb=>⟨(hf b hb).1,(hf b hb).2.1,fun p hp=>absurd (show p∈([]:List (Addr×Obj)) from hp) (by simp),(hf b hb).2.2⟩
 exact ⟨e,.ref C,H',rfl,I.os,I.bare,I2.base,I2.hok,F2,q C H' hC e1⟩
theorem AT {k:Nat} {f:Addr} {fd:Iu} {x:Str} {P:Program} {w:D_} {K:ck} {mg:Str→Option Value} {base:Heap} {qual:Str} {st:Stmt} {F:List Dv→Option (Rs Dv)} {n:Nat} (N ps:List Str) (fb:FnS) (hF:F=j4 N.length fb) (hn:n=ps.length)
 (Fn:Fun K x qual st f fd) (S:dz N ps (au st))
 (hb:∀ (cdv:Value) (A:w_) (outer:List Env) (s:c_) (H:Hp) (E:XK),Room k (A.deeper (Ld qual (au st) s.heap.objs.size f cdv))→FSs (mS (CXE P w) P w K mg base N qual (au st) f cdv A outer s H E) (bC st) fb) :
 FnOk P w K mg base (CXE P w) (k + 1) f fd ps (spE K F n):=by
 subst hF hn
 obtain ⟨oc,od,kV,doc,pm,an,cdv,ct,osl,rfl,lk,hcd⟩:=Fn.ex
 refine zR lk hcd S (fun vs H Q E h=>?_) fun A outer s H vs Q E hr h=>?_
 · obtain ⟨ds,r,hl,_⟩:=h
   rw [r.length,hl]
 · obtain ⟨ds,r,hl,q⟩:=h
   refine ⟨_,(hb cdv A outer s H E hr).h,ds.map some ++ q_ (N.length - ds.length) none,fQ r,?_⟩
   unfold j4 at q
   match hf:fb (ds.map some ++ q_ (N.length - ds.length) none) with
   | none=>rw [hf] at q; exact q.elim
   | some (.exc c)=>rw [hf] at q; exact EC q
   | some (.rt d)=>rw [hf] at q; exact fun v H' e r'=>q v H' e r'
   | some (.nx ρ)=>rw [hf] at q; exact fun σ' H' e _=>q .non H' e rfl
theorem jB {P:Program} {w:D_} {H:Hp} {h:Heap} (ok:HOk P w H h) {a:Addr} {u:HO} (q:H a=some u):∃ o,h.get? a=some o:=by
 have hk:=ok a u q
 clear q
 induction u with
 | lst xs=>obtain ⟨_,_,_,_,z⟩:=hk; exact ⟨_,z⟩
 | tup xs=>obtain ⟨_,_,_,o,z,_⟩:=hk; exact ⟨_,z⟩
 | dK kvs=>obtain ⟨_,_,_,_,o,_,_,z,_⟩:=hk; exact ⟨_,z⟩
 | dT kvs=>obtain ⟨_,_,_,_,o,_,_,z,_⟩:=hk; exact ⟨_,z⟩
 | set S n=>obtain ⟨o,_,_,_,z,_⟩:=hk; exact ⟨_,z⟩
 | ins C dx fs=>obtain ⟨_,_,_,z,_⟩:=hk; exact ⟨_,z⟩
 | own y=>obtain ⟨_,z⟩:=hk; exact ⟨_,z⟩
 | xd fs=>obtain ⟨_,⟨_,_,_,z,_⟩,_⟩:=hk; exact ⟨_,z⟩
 | rng lo hi=>obtain ⟨_,_,_,z⟩:=hk; exact ⟨_,z⟩
 | frz ob u ih=>obtain ⟨z,_⟩:=hk; exact ⟨_,z⟩
 | tbl ps=>exact ⟨_,(show h.get? a=some _ from hk)⟩
 | met f y=>exact ⟨_,(show h.get? a=some _ from hk)⟩
 | ext φ=>obtain ⟨_,⟨_,z⟩,_⟩:=hk; exact ⟨_,z⟩
theorem qw {P:Program} {w:D_} {H:Hp} {h:Heap} (ok:HOk P w H h) {a:Addr} (n:h.get? a=none):H a=none:=by
 cases q:H a with
 | none=>rfl
 | some u =>
  obtain ⟨o,z⟩:=jB ok q
  rw [n] at z
  cases z
theorem qz {K:ck} {h:Heap} {mg:Str→Option Value} {x:Str} {C:Addr} {bmB:List Value} {newId:String} (X:K.In h) (hb:mg x=some (.ref C)) (q:N6 K C bmB newId=true):OwnCls x C bmB newId mg h:=by
 constructor
 · exact hb
 unfold N6 at q
 split at q
 · rename_i dd cd sl look
   split at q
   · rename_i C2 rest s0 s1 s2 s3 nid s5 em es
     simp only [j_,beq_iff_eq,Iw] at q
     have e1:=q.1.1.1.1.1
     have e2:=q.1.1.1.1.2
     have e3:=q.1.1.1.2
     have e4:=q.1.1.2
     have e5:=q.1.2
     have e6:=q.2
     clear q
     subst e1 e2
     obtain ⟨f1,f2,f3,f4,f5,f6,f7,f8,f9,f10,f11⟩:=cd
     dsimp only at em e3 e5 e6
     subst em e3
     obtain ⟨l⟩:=sl
     have e7:l=[s0,s1,s2,s3,some (.builtin nid),s5]:=es
     subst e7
     refine ⟨rest,f4,f1,f5,f2,f6,f7,f8,f9,f10,dd,s0,s1,s2,s3,s5,_,X _ _ look,.of_isNs (PySem.W.isNs_of_in X e5),?_,PySem.W.tail_of_in X e4⟩
     exact PySem.W.nsMap_none_of_in X e5 e6
   · cases q
 · cases q
abbrev bmV:List Value:=[.type "ValueError",.type "Exception",.type "BaseException",.type "object"]
structure XC (K:ck) (c:Nat) (C:Addr):Prop where
 nm:Jp K C_ (xnm c)=some (some (.ref C))
 ex:N6 K C bmV "ValueError.__new__"=true
def cG (c:Nat) (f:FnE):FnS:=fun ρ=>cB (f ρ) fun _=>some (.exc c)
section
variable {X:Cx} {a:Expr} {fa:FnE} {np cpos pos:Pos} {x:Str} {C:Addr}
theorem ux (c:Nat) (K:XC X.K c C) (hx:xnm c=x) (hm:X.mg x=some (.ref C)) (hex:X.ex=[]) (hc:X.calm=true) (hg:Gl X x) (ha:FE X a fa)
 (he:f_ [a] X.env=(false,eval a X.env) :: f_ [] X.env:=by kernel_rfl) (hdb:(x == ("__debug__":Str))=false:=by kernel_rfl) :
 FS X (.Raise (some (.Call (.Name x np) [a] [] cpos)) none pos) (cG c fa):=by
 subst hx
 constructor
 intro pins s σ H D I ⟨ρ,E,o⟩
 obtain ⟨tl,N,nm,q,bs,hdct,sn,sub,ab,col,dd,k0,k1,k2,k3,k5,mN,hC,hN,hni,T⟩:=(qz I.ok.mod.kin hm K.ex).obj
 refine wpAny_Raise_call_subT (C:=C) (nm:=nm) (q:=q) (N:=N) (bs:=bs) (bm:=tl) (hdct:=hdct) (sn:=sn) (sub:=sub) (ab:=ab) (col:=col) (dd:=dd) (k0:=k0) (k1:=k1) (k2:=k2) (k3:=k3) (k5:=k5) KP (mN:=mN)
  (T.hasType KP.hasBase) (I.ok.hd hc) (by rw [he]; rfl) hni (fN I hg hm ⟨rfl,?_⟩ hdb)
 have hp:=(gU ha iL he).h cpos pins s σ H (fun vs H1=>vs.length=1∧XW X c H1) I ⟨ρ,E,?_⟩
 · rw [he] at hp ⊢
   refine NL (thn hp fun us s2 ⟨vs,H1,I1,rv,hl,hw⟩=>⟨rfl,?_,I1.bk _ _ hC,hN.keeps I1.bk,T.keeps I1.bk,fun h' e me=>?_⟩)
   · rw [← rv.length,hl]; decide
   · have I2:Inv X pins σ H1 { s2 with heap:=h' }:=I1.kept (t':=s2.toks) me.keeps
     obtain ⟨t,t1,t2,t3⟩:=me.there
     refine hw pins σ H1 _ (.ref e) (fun _ _ z=>z) I2 ⟨e,C,rfl,K.nm,qw I1.hok me.new,⟨?_,fun p hp z=>?_⟩,_,_,.ref t,t1,rfl,rfl,rfl,.inl rfl⟩
     · cases z:X.s₀.heap.get? e with
       | none=>rfl
       | some o2 =>
        obtain ⟨o3,z3⟩:=I1.base.there e o2 z (by rw [hex]; simp)
        rw [me.new] at z3
        cases z3
     · have z2:=(I1.pin p (Hv _ hp)).1
       rw [z,me.new] at z2
       cases z2
 · show OutA X H (aa fa ah ρ) _
   unfold aa
   unfold cG at o
   match hf:fa ρ with
   | none=>rw [hf] at o; exact o.elim
   | some (.exc c2)=>rw [hf] at o; exact o
   | some (.ok d)=>rw [hf] at o; exact fun vs H1 e1 r=>⟨r.length,XW.mono o e1⟩
end
end FD
namespace FD
open PySem PySem.Spec PyProof.Rows L2 PySem.W Builtin.Getset_descriptor
theorem qA:plainId "BaseException.__getattribute__"=true:=by decide +kernel
theorem nh:builtinKind "BaseException.__getattribute__"=some .slot:=by decide +kernel
theorem qB:splitId "BaseException.__getattribute__"=some ("BaseException","__getattribute__"):=by decide +kernel
theorem uy (self:Value):bindSpecial (.builtin "BaseException.__getattribute__") self=pure (.builtin "BaseException.__getattribute__",[self]):=by
 have h1:withoutEnding? "BaseException.__getattribute__" "#opaque"=none:=by decide +kernel
 have h2:withoutEnding? "BaseException.__getattribute__" "#data"=none:=by decide +kernel
 simp only [bindSpecial,N_,builtinType,h1,h2,nh]; rfl
section
variable {prog:Program} {w:D_} {A:w_} {E:Value→c_→Prop} {s:c_} {K:ck} {x C:Addr} {ox:Obj}
structure XI (K:ck) (C:Addr):Prop where
 ga:findIn K (.ref C) "__getattribute__"=some (some (.builtin "BaseException.__getattribute__"))
 gt:findIn K (.ref C) "__getattr__"=some none
 cl:findIn K (.ref C) "__class__"=some (some (.builtin "object.__class__"))
 sp:specialIn K (.builtin "object.__class__") "__get__"=some (some (.builtin "getset_descriptor.__get__"))
 tk:takesIn K (.builtin "object.__class__")=some true
 ob:mroIn K C (.type "object")=some true
 be:mroIn K C (.type "BaseException")=some true
theorem AU (hx:s.heap.get? x=some ox) (hc:ox.cls=.ref C) {M:MD}:Looks M s.heap (N_ (.ref x)) (.ref C):=hc ▸ (Looks.ld hx).andThen .now
theorem uz (X:K.In s.heap) (k:XI K C) {M:MD}:Looks M s.heap (M3 (.ref x) (.ref C) "__class__") (.bind (.builtin "getset_descriptor.__get__") (.builtin "object.__class__")):=by
 have L1:=Oz (M:=M) X k.cl
 have L2:=looks_specialIn (M:=M) X k.sp
 have L3:=looks_takesIn (M:=M) X k.tk
 intro A2 Q2 E2 s2 k2 q2
 unfold M3
 refine b_ (L1 A2 _ E2 s2 k2 (b_ (L2 A2 _ E2 s2 k2 (b_ ?_))))
 unfold Ol
 refine b_ (L3 A2 _ E2 s2 k2 ?_)
 rw [if_pos rfl]
 exact d_ (b_ (JP (d_ q2)))
theorem AV {R:Ng→c_→Prop} {tp:Value} (X:K.In s.heap) (hx:s.heap.get? x=some ox) (hc:ox.cls=.ref C) (hm:mroIn K C (.type "object")=some true)
 (h:R (.ok (.ret (.ref C))) s):Ki (p_ prog w) A (.call (.builtin "getset_descriptor.__get__") ⟨[.builtin "object.__class__",.ref x,tp],[]⟩) R s:=by
 have L0:=AU (M:=p_ prog w) hx hc
 have L1:=looks_mroIn (M:=p_ prog w) X hm
 obtain ⟨hh,g,dr,t,os⟩:=s
 refine JK KF.slot_gs.plain KF.entry_gs (KF.slot_gs.check _ _ _ _ _ _ _ _ KF.type_class (KF.args_gs _ _ _) ?_)
 unfold Jw.«getset_descriptor.__get__» descrGet
 rw [dga_obj]
 refine b_ (d_ ?_)
 unfold descrGetter descrCheckInstance descrNameAndClass isInstance
 simp only [KF.owner_class]
 repeat lk
 refine ⟨Km _ (by decide +kernel),Ic KF.entry_class ?_⟩
 unfold Jw.«object.__class__» shownTypeOf
 repeat lk
 exact h
theorem qC {Q:Option Value→c_→Prop} (X:K.In s.heap) (hx:s.heap.get? x=some ox) (hc:ox.cls=.ref C) (k:XI K C)
 (h:Q (some (.ref C)) { s with toks:=s.toks + 1 }):k_ (p_ prog w) A (getAttr? (.ref x) "__class__") Q E s:=by
 have L0:=AU (M:=p_ prog w) hx hc
 have L2:=uz (M:=p_ prog w) (x:=x) X k
 obtain ⟨hh,g,d,t,os⟩:=s
 have L1:=Oz (M:=p_ prog w) X k.ga
 have L3:=Oz (M:=p_ prog w) X k.gt
 have LB:=looks_mroIn (M:=p_ prog w) X k.be
 unfold getAttr? getAttrBy? getAttrBy
 refine b_ (wpAny_mkText (b_ (Jg (HX (b_ (L0.at (b_ (L1.at ?_))))))))
 have hne:(IV "BaseException.__getattribute__" == IV "object.__getattribute__")=false:=by decide +kernel
 dsimp only
 rw [hne,NS,if_neg pi]
 unfold getAttrByItsOwn
 refine b_ ?_
 show k_ _ _ (typeLookup (.ref C) "__getattr__") _ _ _
 refine L3.at ?_
 refine b_ (Jg (HX ?_))
 unfold callGetattribute boundAndCalled
 rw [if_neg (by decide)]
 rw [uy]
 refine b_ (d_ ?_)
 refine Lb (JK qA F.entry_bexc_ga ?_)
 simp only [checkBuiltinCall,nh,qB]
 have ha:=F.args_bexc_ga (.ref x) (.str "__class__" t)
 have LI:Looks (p_ prog w) hh (isInstance (.ref x) (.type "BaseException")) true:=L0.andThen LB
 show k_ _ _ (isInstance (.ref x) (.type "BaseException") >>= _) _ _ _
 refine b_ (LI.at ?_)
 simp only [Kv,rl,if_false]
 have hz:hh.get? x=some ox∧True:=⟨hx,trivial⟩
 clear hx
 repeat (any_goals (first | assumption | wp_step))
 have hx':=hz.1
 refine MB hx' ?_
 refine d_ ?_
 rw [hc]
 refine b_ (L2.at ?_)
 dsimp only
 unfold Pz
 dsimp only
 refine b_ (HX (Lb (AV (s:=⟨hh,g,d,t + 1,os⟩) (ox:=ox) X hx' hc k.ob ?_)))
 refine d_ ?_
 show k_ _ _ (handedOut (.ref C)) _ _ _
 rw [handedOut_of rfl]
 exact d_ (d_ h)
theorem ni {K:ck} {C:Addr} {b:Value} {r:Bool} (h:mroIn K C b=some r):∃ cd,clsIn K C=some cd:=by
 unfold mroIn at h
 cases q:clsIn K C with
 | none=>rw [q] at h; cases h
 | some cd=>exact ⟨cd,rfl⟩
theorem uA {K:ck} {x C:Addr} {ox:Obj} (k:XI K C) (hc:ox.cls=.ref C):KitX K (.ref x) (.ref C) (fun h=>h.get? x=some ox) where
 ty:=fun M h _ q=>hc ▸ (Looks.ld q).andThen .now
 it:=fun _ _ X _=>by
  obtain ⟨cd,hc⟩:=ni k.ob
  unfold clsIn at hc
  split at hc
  · rename_i look
    intro A2 Q2 E2 s2 k2 q2
    unfold isType loadHead
    exact b_ (wpAny_loadPart (k2 _ _ (X _ _ look)) (d_ q2))
  · cases hc
 ne:=fun h tp dd its n sl X htp=>by
  obtain ⟨cd,hc⟩:=ni k.ob
  cases z:(xy C == xy tp) with
  | false=>rfl
  | true =>
   have e:=Value.ref.inj (beq_iff_eq.mp z)
   subst e
   unfold clsIn at hc
   split at hc
   · rename_i look
     cases (X _ _ look).symm.trans htp
   · cases hc
 ca:=fun X q z=>qC X q hc k z
end
def isX (tb:Nat→Option Bool):Dv→Option (Rs Dv)
 | .exn c=>match tb c with
  | some b=>some (.ok (.bl b))
  | none=>none
 | _=>none
def XT (K:ck) (tb:Nat→Option Bool) (T:Value):Prop:=∀ c b,tb c=some b→∀ C,nsIn K C_ (xnm c)=some (some (.ref C))→XI K C∧kitOne K (.ref C) T=some b
section
variable {X:Cx} {p pos pT:Pos} {a:Expr} {fa:FnE} {T:Str}
theorem nj {tv:V} {tval:Value} (rt:∀ u,RelV tv u→u=tval) {tb:Nat→Option Bool} (k:XT X.K tb tval):CallR X (.builtin "isinstance") (fun xs H Q=>∃ v c b,xs=[v,tv]∧Rep X.K H (.exn c) v∧tb c=some b∧Q (.bl b) H):=by
 intro pins s σ H xs us Q I r h
 obtain ⟨v,c,b,rfl,rv,hb,q⟩:=h
 obtain ⟨a,o,u,C,rfl,hH,hc,hn⟩:=rv.exnE
 obtain ⟨u1,u2,rfl,r1,r2⟩:=wG r
 cases (show u1=xy a from r1)
 cases (rt u2 r2)
 obtain ⟨xi,kk⟩:=k c b hb C hn
 have hg:s.heap.get? a=some o:=(I.hok a _ hH).1
 exact kia_one (uA xi hc) I.kIn hg kk (by intro z; cases z) fun tk=>⟨.bl b,H,I.tok tk,rfl,q⟩
theorem AW {tb:Nat→Option Bool} {CT:Addr} (k:XT X.K tb (.ref CT)) (hT:X.mg T=some (.ref CT)) (hgT:Gl X T) (hdT:(T == ("__debug__":Str))=false) (hg:Gl X "isinstance") (hm:X.mg "isinstance"=none) (ha:FE X a fa)
 (hs1:f_ [a,.Name T pT] X.env=(false,eval a X.env) :: f_ [.Name T pT] X.env:=by kernel_rfl) (hs2:f_ [.Name T pT] X.env=(false,eval (.Name T pT) X.env) :: f_ [] X.env:=by kernel_rfl)
 (hpl:(Ho pos (f_ [.Name T pT] X.env)).any (·.1)=false:=by kernel_rfl) :
 FE X (.Call (.Name "isinstance" p) [a,.Name T pT] [] pos) (f1 (isX tb) fa) :=
 bO (dM (nj (tv:=.ref CT) (fun u z=>z) k) hg hm Ks (ez ha.h (ez (lC (v:=.ref CT) hgT hT rfl hdT) mQ hs2) hs1) (by decide) (by decide) hs1 hpl) fun σ H Q ρ E o=>⟨ρ,E,Out.bind o fun d v H1 e1 r o1=>by
  show ∃ v2 c b,[v,V.ref CT]=[v2,V.ref CT]∧_
  cases d with
  | exn c =>
   have o2:Out X H1 (match tb c with | some b=>some (.ok (.bl b)) | none=>none) Q:=o1
   cases q:tb c with
   | none=>rw [q] at o2; exact o2.elim
   | some b=>rw [q] at o2; exact ⟨v,c,b,rfl,r,q,o2 _ H1 (.refl H1) rfl⟩
  | _=>exact o1.elim⟩
theorem AX {T:String} {tb:Nat→Option Bool} (k:XT X.K tb (.type T)) (hT:Iq (a_ T)=some (.type T)) (hn:a_ T≠"__name__") (hdT:(a_ T == ("__debug__":Str))=false)
 (hg:Gl X "isinstance") (hm:X.mg "isinstance"=none) (hgT:Gl X (a_ T)) (hmT:X.mg (a_ T)=none) (ha:FE X a fa)
 (hs1:f_ [a,.Name (a_ T) pT] X.env=(false,eval a X.env) :: f_ [.Name (a_ T) pT] X.env:=by kernel_rfl) (hs2:f_ [.Name (a_ T) pT] X.env=(false,eval (.Name (a_ T) pT) X.env) :: f_ [] X.env:=by kernel_rfl)
 (hpl:(Ho pos (f_ [.Name (a_ T) pT] X.env)).any (·.1)=false:=by kernel_rfl) :
 FE X (.Call (.Name "isinstance" p) [a,.Name (a_ T) pT] [] pos) (f1 (isX tb) fa) :=
 bO (dM (nj (tv:=.ty T) (fun u z=>z) k) hg hm Ks (ez ha.h (ez (pO (v:=.ty T) hgT hmT hT rfl hn hdT) mQ hs2) hs1) (by decide) (by decide) hs1 hpl) fun σ H Q ρ E o=>⟨ρ,E,Out.bind o fun d v H1 e1 r o1=>by
  show ∃ v2 c b,[v,V.ty T]=[v2,V.ty T]∧_
  cases d with
  | exn c =>
   have o2:Out X H1 (match tb c with | some b=>some (.ok (.bl b)) | none=>none) Q:=o1
   cases q:tb c with
   | none=>rw [q] at o2; exact o2.elim
   | some b=>rw [q] at o2; exact ⟨v,c,b,rfl,r,q,o2 _ H1 (.refl H1) rfl⟩
  | _=>exact o1.elim⟩
end
end FD
namespace FD
open PySem PySem.Spec PyProof.Rows L2 PySem.W
section
variable {X:Cx} {pins:List (Addr×Obj)} {σ:L2.St} {H:Hp} {s:c_}
theorem qD {M:MD} {A:w_} {E:Value→c_→Prop} {i:Nat} {x:Str} {v:V} {pos:Pos} {Q:Unit→c_→Prop} (I:Inv X pins σ H s) (hN:X.N.Nodup) (hi:X.N[i]?=some x) (hk:X.env.scope.names.lookup x=some .local) (hv:σ[i]?=some (some v))
 (h:∀ s',Inv X pins (σ.set i none) H s'→Q () s'):k_ M A (unbindBehindTheSuite X.env x pos) Q E s:=by
 obtain ⟨m,hn,hl⟩:=id I.loc
 have hkd:X.env.kindOf x=some .local:=hk
 obtain ⟨u,ru,lk⟩:=hl i x v hi hv (.inl hk)
 have hm:m x=some u:=by
  rcases lk with ⟨_,z⟩ | ⟨z,_⟩
  · exact z
  · rw [hkd] at z
    rcases z with z | z <;> cases z
 have hcls:(X.env.scope.kind == .class || (X.env.scope.kind == .module && X.env.locals != X.env.globals))=false:=by rw [I.ok.kind]; rfl
 have cne:=I.cne
 obtain ⟨oL,_,_,hoL,_⟩:=id hn
 refine wpAny_onRaise (wpAny_unbindName_local hkd hn hm hcls fun h' w hn' hs=>?_)
 refine h _ ⟨I.ok,I.os,I.bare,⟨fun b o e n hb hx=>?_,fun b o e n hb hx=>?_,I.base.free,fun b o e hx=>?_,I.base.tups,I.base.frzs,I.base.tbls⟩,⟨_,hn',fun j y v' e1 e2 e3=>?_⟩,fun y c e=>?_,I.free,I.freeC,fun p hp=>?_,fun b ob e=>?_,by simpa using I.len⟩
 · exact (hs.2 b (t_ (x_ (o_ e) I.ok.above))).trans (I.base.keep b o e n hb hx)
 · obtain ⟨sl,e1⟩:=I.base.slot b o e n hb hx
   exact ⟨sl,(hs.2 b (t_ (x_ (o_ e) I.ok.above))).trans e1⟩
 · obtain ⟨o',e1⟩:=I.base.there b o e hx
   exact ⟨o',(hs.2 b (t_ (x_ (o_ e) I.ok.above))).trans e1⟩
 · by_cases hj:j=i
   · subst hj
     have hjl:j < σ.length:=by rw [I.len]; exact (v_.mp hi).1
     rw [B_ hjl] at e2
     cases e2
   · rw [s_ (IG hj)] at e2
     obtain ⟨u',r',q⟩:=hl j y v' e1 e2 e3
     refine ⟨u',r',?_⟩
     rcases q with ⟨k,e⟩ | ⟨k,c,e,z⟩
     · refine .inl ⟨k,?_⟩
       have:y≠x:=fun e=>hj (jk hN e1 (e ▸ hi))
       simp [this,e]
     · exact .inr ⟨k,c,e,z.sameBut hs (cne y c e)⟩
 · obtain ⟨w',z⟩:=I.cell y c e
   exact ⟨w',z.sameBut hs (cne y c e)⟩
 · obtain ⟨e,n,ne,nf,d⟩:=I.pin p hp
   exact ⟨(hs.2 p.1 ne).trans e,n,ne,nf,d⟩
 · refine (I.hok b ob e).stay (fun c w' hc q=>(hs.2 c ?_).trans q) (fun _ q=>q) fun _ _ q=>q
   rintro rfl
   rcases hc with hc | hc
   · rw [← hc,I.free] at e; cases e
   · rw [I.free] at hc; cases hc
theorem Inv.freeze {e:Addr} {oe:Obj} {vs:Array Value} (I:Inv X pins σ H s) (he:H e=none) (hg:s.heap.get? e=some oe) (hd:oe.data=.fields vs) (h0:X.s₀.heap.get? e=none) (hp:∀ p∈X.pn ++ pins,p.1≠e) :
 Inv X pins σ (upd H e (.frz oe (.ext fun _=>True))) s:=by
 have ne:∀ b u,H b=some u→b≠e:=fun b u q=>am q he
 refine ⟨I.ok,I.os,I.bare,⟨I.base.keep,I.base.slot,fun b o q n hx=>?_,I.base.there,fun b xs q=>?_,fun b o u q=>?_,fun b ps q=>?_⟩,I.loc,I.cell,?_,fun x c q=>?_,fun p hp'=>?_,fun b u q=>?_,I.len⟩
 · have hb:b≠e:=fun z=>by rw [z,h0] at q; cases q
   rw [al hb]
   exact I.base.free b o q n hx
 · have q':=I.base.tups b xs q
   rw [al (ne b _ q')]
   exact q'
 · have q':=I.base.frzs b o u q
   rw [al (ne b _ q')]
   exact q'
 · obtain ⟨more,q'⟩:=I.base.tbls b ps q
   exact ⟨more,by rw [al (ne b _ q')]; exact q'⟩
 · obtain ⟨m,⟨o,es,ep,ho,hdd,_⟩,_⟩:=I.loc
   have hb:X.env.locals≠e:=fun z=>by rw [z,hg] at ho; cases ho; rw [hd] at hdd; cases hdd
   rw [al hb]
   exact I.free
 · obtain ⟨v,o,ho,hdd⟩:=I.cell x c q
   have hb:c≠e:=fun z=>by rw [z,hg] at ho; cases ho; rw [hd] at hdd; cases hdd
   rw [al hb]
   exact I.freeC x c q
 · obtain ⟨q1,q2,q3⟩:=I.pin p hp'
   exact ⟨q1,by rw [al (hp p hp')]; exact q2,q3⟩
 · by_cases hb:b=e
   · subst hb
     rw [ak] at q
     cases q
     exact ⟨hg,trivial,⟨oe,hg⟩,fun _ _ _ _=>trivial⟩
   · rw [al hb] at q
     exact (I.hok b u q).stay (fun _ _ _ z=>z) (fun c z=>by rw [al (ne c _ z)]; exact z) fun c xs z=>by rw [al (ne c _ z)]; exact z
end
structure RoomM (k:Nat) (A:w_):Prop where
 dp:A.depth + 3 * k + 5 < recursionLimit
 un:A.units + 16 * k + 200 < cLine
theorem RoomM.of {k:Nat} {A:w_} (r:Room k A):RoomM k A:=⟨r.dp,r.un⟩
theorem RoomM.mono {j k:Nat} {A:w_} (r:RoomM k A) (h:j≤k):RoomM j A:=⟨by have:=r.dp; omega,by have:=r.un; omega⟩
theorem RoomM.deeper {k:Nat} {A:w_} (r:RoomM (k + 1) A) (env:Env):RoomM k (A.deeper env) :=
 ⟨by have:=r.dp; show A.depth + 1 + 3 * k + 5 < _; omega,by have:=r.un; show A.units + 3 + 16 * k + 200 < _; omega⟩
theorem RoomM.units {k:Nat} {A:w_} (r:RoomM k A):A.units + 64 < cLine:=by have:=r.un; omega
structure FnM (P:Program) (w:D_) (K:ck) (mg:Str→Option Value) (base:Heap) (k:Nat) (f:Addr) (fd:Iu) (ps:List Str) (F:List Dv→Option (Rs Dv)):Prop where
 run:∀ (A:w_) (outer:List Env) (s:c_) (H:Hp) (args:Args) (us:List Value) (vs:List V) (ds:List Dv) (d:Dv) (Q:VK),RoomM k A→Env0 P w K mg base A outer s H→MG s fd args (ps.zip us)→Vals vs us →
  Reps K H ds vs→ds.length=ps.length→F ds=some (.ok d)→(∀ v H',Same H H'→Rep K H' d v→Q v H')→Ki (p_ P w) A (.call (.ref f) args) (CR CX0 outer P w H s Q E0) s
def Ds (P:Program) (w:D_) (K:ck) (mg:Str→Option Value) (base:Heap) (x:Str) (k:Nat) (ps:List Str) (F:List Dv→Option (Rs Dv)):Prop :=
 ∃ f fd,FnM P w K mg base k f fd ps F∧mg x=some (.ref f)∧IE K (.ref f)=true∧Binds K fd ps []
section
variable {X:Cx} {x:Str} {p pos:Pos} {e:Expr} {es:List Expr} {g:FnA} {n:Nat}
theorem uB {k':Nat} (k:Nat) (ps:List Str) (F:List Dv→Option (Rs Dv)) (h:Ds X.prog X.w X.K X.mg X.base x k ps F) (hr:RoomM k' X.A) (hk:k≤k') (hg:Gl X x) (ha:FA X (e :: es) g) (hn:n=ps.length:=by kernel_rfl) (hdb:(x == ("__debug__":Str))=false:=by kernel_rfl)
 (he:f_ (e :: es) X.env=(false,eval e X.env) :: f_ es X.env:=by kernel_rfl) (hpl:(Ho pos (f_ es X.env)).any (·.1)=false:=by kernel_rfl) :
 FE X (.Call (.Name x p) (e :: es) [] pos) (ai F n g):=by
 subst hn
 obtain ⟨f,fd,G,hm,hkp,hb⟩:=h
 constructor
 intro pins s σ H Q I ⟨ρ,E,o⟩
 have hp:k_ (p_ X.prog X.w) X.A (Pk (Ho pos (f_ (e :: es) X.env))) (AP X pins σ fun vs H1=>∃ ds,Reps X.K H1 ds vs∧ds.length=ps.length∧∃ d,F ds=some (.ok d)∧∀ v H',Same H1 H'→Rep X.K H' d v→Q v H') X.xe s:=by
  refine ha.h pos pins s σ H _ I ⟨ρ,E,OutA.bind o fun ds vs H' e rs o1=>?_⟩
  by_cases hl:ds.length=ps.length
  · rw [if_pos hl] at o1
    refine ⟨ds,rs,hl,?_⟩
    match hF:F ds with
    | none=>rw [hF] at o1; exact o1.elim
    | some (.exc c)=>rw [hF] at o1; exact o1.elim
    | some (.ok d)=>rw [hF] at o1; exact ⟨d,rfl,o1⟩
  · rw [if_neg hl] at o1
    exact o1.elim
 refine Ix (fN I hg hm ?_ hdb)
 refine Og (h₀:=X.base) I.ok.mod.kin hkp (thn hp fun us s1 ⟨vs,H1,I1,r,ds,rs,hl,d,hF,q⟩=>⟨I1.kIn,?_⟩) he hpl
 have hlen:us.length=ps.length:=by rw [← r.length,rs.length,hl]
 have hb':MG s1 fd ⟨us,[]⟩ (ps.zip us):=by
  have z:=hb s1 us I1.kIn (by rw [JF]; exact hlen)
  rw [JF] at z
  exact z
 refine Lb (Jh (G.run X.A X.stack s1 H1 ⟨us,[]⟩ us vs ds d Q (hr.mono hk) I1.env0 hb' r rs hl hF q) fun r s' hq=>?_)
 cases r with
 | error e=>exact hq.elim
 | ok fl =>
  cases fl with
  | ret u=>exact I1.after hq
  | next=>exact Ht hq
  | brk=>exact Ht hq
  | cont=>exact Ht hq
end
def cxM (P:Program) (w:D_) (K:ck) (mg:Str→Option Value) (base:Heap) (N:List Str) (qual:Str) (scope:Scope) (f:Addr) (cd:Value) (A:w_) (outer:List Env) (s:c_) (H:Hp):Cx :=
 { mS CX0 P w K mg base N qual scope f cd A outer s H E0 with calm:=false,xe:=fun _ _=>False }
theorem AY {k:Nat} {f:Addr} {fd:Iu} {x:Str} {P:Program} {w:D_} {K:ck} {mg:Str→Option Value} {base:Heap} {qual:Str} {st:Stmt} {F:List Dv→Option (Rs Dv)} (N ps:List Str) (fb:FnS) (hF:F=bg N.length fb)
 (Fn:Fun K x qual st f fd) (S:dz N ps (au st))
 (hb:∀ (cdv:Value) (A:w_) (outer:List Env) (s:c_) (H:Hp),RoomM k (A.deeper (Ld qual (au st) s.heap.objs.size f cdv))→FSs (cxM P w K mg base N qual (au st) f cdv A outer s H) (bC st) fb) :
 FnM P w K mg base (k + 1) f fd ps F:=by
 subst hF
 obtain ⟨oc,od,kV,doc,pm,an,cdv,ct,osl,rfl,lk,hcd⟩:=Fn.ex
 refine ⟨fun A outer s H args us vs ds d Q hr e0 hbd r rs hl hF q=>?_⟩
 have hlv:vs.length=ps.length:=by rw [rs.length,hl]
 have KX:K.In s.heap:=e0.mod.kin.keeps fun b o e=>(e0.bs b o e).1
 have lim:s.heap.NoLimit:=e0.mod.nolimit.keeps fun b o e=>(e0.bs b o e).1
 have hkind:∀ y∈ps.zip us,(au st).names.lookup y.1=some .local∨((au st).names.lookup y.1=some .cell∧((HK (s.heap.objs.size + 1) (au st).names []).lookup y.1).isSome=true):=fun ⟨n,v⟩ hy=>by
  rcases S.par n (L8 hy).1 with z | z
  · exact .inl z
  · exact .inr ⟨z,Lr _ _ _ (.inl z)⟩
 have hdp:A.depth < recursionLimit:=by have:=hr.dp; omega
 refine Nu hdp (KX _ _ lk) rfl S.co S.gen rfl (Of KX hcd) (hbd _ _ _ _ ?_)
 refine Mh S.kind hkind fun env he s1 x=>?_
 subst he
 refine ⟨lim.keeps x.toInCall.keep,codeAny_func ?_⟩
 have e1:Env0 P w K mg base { A with handled:=none } outer s H:=⟨e0.frames,e0.mod,e0.bs,e0.bsz,e0.funs,e0.frf,e0.hok,e0.bare⟩
 have I0:Inv (mS CX0 P w K mg base N qual (au st) f cdv { A with handled:=none } outer s H E0) [] (start N vs) H s1:=ka S rfl e1 hlv r x
 have I:Inv (cxM P w K mg base N qual (au st) f cdv A outer s H) [] (start N vs) H s1 :=
  ⟨⟨I0.ok.mod,I0.ok.kind,I0.ok.glob,I0.ok.blt,I0.ok.above,I0.ok.inj,I0.ok.has,I0.ok.cab,(fun z=>absurd z pi),NM e0.frames,I0.ok.stk,I0.ok.exf,I0.ok.bs,I0.ok.bsz,I0.ok.noex,I0.ok.exfs,I0.ok.funs,I0.ok.frf⟩,
   I0.os,I0.bare,I0.base,I0.loc,I0.cell,I0.free,I0.freeC,I0.pin,I0.hok,I0.len⟩
 have fin:∀ {s':c_} {σ':L2.St} {H':Hp} {v:V} {u:Value},Inv (cxM P w K mg base N qual (au st) f cdv A outer s H) [] σ' H' s'→RelV v u→Q v H'→CE outer P w H s Q u s':=fun {s' σ' H' v u} J rv q=>⟨v,H',J.os,J.bare,J.base,J.hok,rv,q⟩
 have hq:OutS (cxM P w K mg base N qual (au st) f cdv A outer s H) H (fb (ds.map some ++ q_ (N.length - ds.length) none)) { nx:=fun _ H'=>Q .non H',rt:=Q }:=by
  unfold bg at hF
  match hf:fb (ds.map some ++ q_ (N.length - ds.length) none) with
  | none=>rw [hf] at hF; cases hF
  | some (.exc c)=>rw [hf] at hF; cases hF
  | some (.rt d')=>rw [hf] at hF; cases hF; exact q
  | some (.nx ρ)=>rw [hf] at hF; cases hF; exact fun σ' H' e _=>q .non H' e rfl
 refine HI ((hb cdv A outer s H (hr.deeper _)).h [] s1 (start N vs) H _ I ⟨_,fQ rs,hq⟩) (fun fl s' hs=>?_) fun e s' hs=>hs.elim
 cases fl with
 | ret u =>
  obtain ⟨v,σ',H',J,rv,z⟩:=hs
  exact fin J rv z
 | next =>
  obtain ⟨σ',H',J,z⟩:=hs
  exact fin (v:=V.non) (u:=E_) J rfl z
 | brk =>
  obtain ⟨_,_,_,z⟩:=hs
  exact Ht z
 | cont =>
  obtain ⟨_,_,_,z⟩:=hs
  exact Ht z
abbrev zf (X:Cx) (pl:List (Addr×Obj)) (E:Value→c_→Prop):Cx:={ X with pn:=X.pn ++ pl,xe:=E }
abbrev ku (X:Cx) (pl:List (Addr×Obj)) (e:Addr):Cx:={ X with A:=X.A.mark (some (.ref e)),calm:=false,pn:=X.pn ++ pl,xe:=fun _ _=>False }
section
variable {X:Cx} {pl ps:List (Addr×Obj)} {σ:L2.St} {H:Hp} {s:c_} {E:Value→c_→Prop} {e:Addr}
theorem xA (I:Inv X pl σ H s):Inv (zf X pl E) [] σ H s :=
 ⟨⟨I.ok.mod,I.ok.kind,I.ok.glob,I.ok.blt,I.ok.above,I.ok.inj,I.ok.has,I.ok.cab,I.ok.hd,I.ok.frames,I.ok.stk,I.ok.exf,I.ok.bs,I.ok.bsz,I.ok.noex,I.ok.exfs,I.ok.funs,I.ok.frf⟩,
  I.os,I.bare,I.base,I.loc,I.cell,I.free,I.freeC,fun p hp=>I.pin p (by simpa using hp),I.hok,I.len⟩
theorem gY (I:Inv (zf X pl E) ps σ H s):Inv X pl σ H s :=
 ⟨⟨I.ok.mod,I.ok.kind,I.ok.glob,I.ok.blt,I.ok.above,I.ok.inj,I.ok.has,I.ok.cab,I.ok.hd,I.ok.frames,I.ok.stk,I.ok.exf,I.ok.bs,I.ok.bsz,I.ok.noex,I.ok.exfs,I.ok.funs,I.ok.frf⟩,
  I.os,I.bare,I.base,I.loc,I.cell,I.free,I.freeC,fun p hp=>I.pin p (Hv _ hp),I.hok,I.len⟩
theorem nk (I:Inv X pl σ H s):Inv (ku X pl e) [] σ H s :=
 ⟨⟨I.ok.mod,I.ok.kind,I.ok.glob,I.ok.blt,I.ok.above,I.ok.inj,I.ok.has,I.ok.cab,fun z=>absurd z pi,I.ok.frames,I.ok.stk,I.ok.exf,I.ok.bs,I.ok.bsz,I.ok.noex,I.ok.exfs,I.ok.funs,I.ok.frf⟩,
  I.os,I.bare,I.base,I.loc,I.cell,I.free,I.freeC,fun p hp=>I.pin p (by simpa using hp),I.hok,I.len⟩
theorem oU (ok:X.Ok) (I:Inv (ku X pl e) ps σ H s):Inv X pl σ H s :=
 ⟨ok,I.os,I.bare,I.base,I.loc,I.cell,I.free,I.freeC,fun p hp=>I.pin p (Hv _ hp),I.hok,I.len⟩
theorem uC {Y:Cx} (I:Inv Y ps σ H s) (hex:Y.ex=[]) (hst:Y.stack=Y.env :: Y.outer) (hfm:Y.env.frame=some Y.env.locals) {cls:Value} (F:Fly (D7 Y) H e cls s.heap)
 {Q:Unit→c_→Prop} {E1 E2:Value→c_→Prop} (k:∀ h' Ts a0,(hid Y e Ts s.heap).StaysIn h'→h'.FunFrames (hid Y e Ts s.heap) Y.stack→h'.TracedW (hid Y e Ts s.heap) e cls a0 →
  (∀ b o,s.heap.get? b=some o→(∀ vs,o.data≠.fields vs)→∃ sl,h'.get? b=some { o with slots:=sl }) →
  (∀ b,b=e∨b∈Ts→H b=none∧D7 Y b∧∃ o vs,s.heap.get? b=some o∧o.data=.fields vs)→Q () { s with heap:=h' }) :
 k_ (p_ Y.prog Y.w) Y.A (OP (.ref e) Y.env) (fun _ s2=>k_ (p_ Y.prog Y.w) Y.A (setFlight (.ref e) none) Q E1 s2) E2 s:=by
 obtain ⟨f1,f2,oe,vs,a0,q1,q2,q3,q4,q5⟩:=F
 have hfr:Y.A.frames=some (Y.env :: Y.outer):=hst ▸ I.ok.frames
 subst q2
 rcases q5 with q5 | ⟨T,oT,ts,r1,r2,r3,r4,r5,r6,r7⟩
 · have b3:s.heap.FunFrames (hid Y e [] s.heap) (Y.env :: Y.outer):=hst ▸ jA I
   have go:∀ h',Heap.NotedW (hid Y e [] s.heap) (Y.env :: Y.outer) e oe.cls a0 (IT Y.env.locals) s.heap h'→k_ (p_ Y.prog Y.w) Y.A (setFlight (.ref e) none) Q E1 { s with heap:=h' }:=fun h' ⟨k1,k2,k3,k4⟩ =>
    LG (s:={ s with heap:=h' }) k1 k2 k3 fun h2 m1 m2 m3 m4=>k h2 [] a0 m1 (hst ▸ m2) m3 (fun b o q d=>by
     obtain ⟨sl,q'⟩:=k4 b o q d
     exact ⟨sl,m4 b _ q' d⟩) fun b hb=>by
      rcases hb with rfl | hb
      · exact ⟨f1,f2,oe,vs,q1,q3⟩
      · cases hb
   unfold OP
   simp only [hfm]
   refine b_ (IL q1 q3 q5 ?_)
   rw [if_neg (by decide)]
   exact wpAny_entryW hfr b3 hfm q1 (fun b o z=>Kj _ z) (IM _ (g_ ..)) q3 (Ja.mp q5).1 q4 go
 · have b3:s.heap.FunFrames (hid Y e [T] s.heap) (Y.env :: Y.outer):=hst ▸ jA I
   have ht:s.heap.TracedW (hid Y e [T] s.heap) e oe.cls a0:=⟨oe,vs,T,oT,ts,q1,⟨rfl,q4⟩,q3,r1,IM _ (by simp),r2,r5,r6,r7⟩
   refine wpAny_noteFrame_onW hfr b3 hfm ht (fun b o z=>Kj _ z) (IM _ (g_ ..)) fun h' ⟨k1,k2,k3,k4⟩=>?_
   refine LG (s:={ s with heap:=h' }) k1 k2 k3 fun h2 m1 m2 m3 m4=>k h2 [T] a0 m1 (hst ▸ m2) m3 (fun b o q d=>by
    obtain ⟨sl,q'⟩:=k4 b o q d
    exact ⟨sl,m4 b _ q' d⟩) fun b hb=>by
     rcases hb with rfl | hb
     · exact ⟨f1,f2,oe,vs,q1,q3⟩
     · simp at hb
       subst hb
       exact ⟨r3,r4,oT,ts,r5,r6⟩
theorem qE {prog:Program} {w:D_} {A:w_} {E1:Value→c_→Prop} {K:ck} {mg mg2:Str→Option Value} {C J:Addr} {oe:Obj} {y z:Str} {Q:Bool→c_→Prop} (X:K.In s.heap) (hC:OwnCls y C bmV "ValueError.__new__" mg s.heap) (hJ:OwnCls z J bmV "ValueError.__new__" mg2 s.heap)
 (he:s.heap.get? e=some oe) (hc:oe.cls=.ref C) (hm:mroIn K C (.ref J)=some true) (h:Q true s):k_ (p_ prog w) A (excMatches (.ref e) (.ref J)) Q E1 s:=by
 obtain ⟨tl,N,nm,q,bs,hdct,sn,sub,ab,col,dd,k0,k1,k2,k3,k5,mN,hC,hN,hni,T⟩:=hC.obj
 obtain ⟨tl',N',nm',q',bs',hdct',sn',sub',ab',col',dd',l0,l1,l2,l3,l5,mN',hJ,hN',hni',T'⟩:=hJ.obj
 obtain ⟨hh,g,d,t,os⟩:=s
 have hcB:(xy J :: tl').contains (.type "BaseException")=true:=by rw [List.contains_cons,T'.hasType KP.hasBase,Bool.or_true]
 have hcC:(xy C :: tl).contains (.ref J)=true:=by
  unfold mroIn at hm
  obtain ⟨cd,a,b⟩:=Option.bind_eq_some_iff.mp hm
  split at b
  · cases b
  · have b':=HN b
    unfold clsIn at a
    split at a
    · rename_i look
      cases a
      have z:=(X _ _ look).symm.trans hC
      cases z
      exact b'
    · cases a
 have f:=tc_notTuple
 unfold excMatches
 repeat (first | (with_reducible refine MB he ?_; rw [hc]) | with_reducible refine MB hJ ?_ | (with_reducible refine wpAny_isSubtype_exc hJ ?_; rw [hcB]) | (with_reducible refine wpAny_isSubtype_exc hC ?_; rw [hcC]) | wp_step)
 exact h
end
def xB (m i N:Nat) (f g:FnE):FnS:=fun ρ=>match f ρ with
 | none=>none
 | some (.ok d)=>some (.rt d)
 | some (.exc c)=>if c < m then (match g ((q_ N none).set i (some (.exn c))) with
  | some (.ok d)=>some (.rt d)
  | _=>none) else none
section
variable {X:Cx} {ex hx:Expr} {f g:FnE} {J n:Str} {CJ:Addr} {np rp rp2 hpos pos:Pos}
theorem AZ (m i N:Nat) (hex:X.ex=[]) (hst:X.stack=X.env :: X.outer) (hfm:X.env.frame=some X.env.locals) (hgJ:Gl X J) (hmJ:X.mg J=some (.ref CJ)) (KJ:excIn X.K CJ bmV "ValueError.__new__"=true)
 (xk:∀ c C,c < m→nsIn X.K C_ (xnm c)=some (some (.ref C))→excIn X.K C bmV "ValueError.__new__"=true∧mroIn X.K C (.ref CJ)=some true)
 (hN:X.N.Nodup) (hi:X.N[i]?=some n) (hl:X.env.scope.names.lookup n=some .local) (hNl:X.N.length=N)
 (hb:∀ pl E',FE (zf X pl E') ex f) (hh:∀ pl e,FE (ku X pl e) hx g) (hdb:(J == ("__debug__":Str))=false:=by kernel_rfl) :
 FS X (.Try [.Return (some ex) rp] [.ExceptHandler (some (.Name J np)) (some n) [.Return (some hx) rp2] hpos] [] [] pos) (xB m i N f g):=by
 constructor
 intro pins s σ H D I ⟨ρ,E,o⟩
 refine wpAny_Try_except ?_
 have hbody:=fun E' (h:OutS (zf X pins E') H (aI f ρ) { nx:=fun _ _=>False,rt:=D.rt })=>(lJ (qi (pos:=rp) (hb pins E'))).h [] s σ H { nx:=fun _ _=>False,rt:=D.rt } (xA I) ⟨ρ,E,h⟩
 refine HI (hbody (fun e s₁=>k_ (p_ X.prog X.w) X.A (OP e X.env) (fun _ s₂=>k_ (p_ X.prog X.w) X.A (setFlight e none) (fun _ s₃=>k_ (p_ X.prog X.w) X.A (handleBy e X.env [.ExceptHandler (some (.Name J np)) (some n) [.Return (some hx) rp2] hpos]) (SP X pins D) X.xe s₃) X.xe s₂) X.xe s₁) ?_) (fun fl s1 hs=>?_) fun e s1 hs=>hs
 · unfold xB at o
   unfold aI
   match hf:f ρ with
   | none=>rw [hf] at o; exact o.elim
   | some (.ok d)=>rw [hf] at o; exact o
   | some (.exc c) =>
    rw [hf] at o
    dsimp only at o
    by_cases hcm:c < m
    · rw [if_pos hcm] at o
      intro ps σ1 H1 s1 ev same I1 ⟨e,C,he,hC,F⟩
      subst he
      have fe:H1 e=none:=F.1
      have fn:=F.2.1
      refine uC (Y:=zf X pins _) I1 hex hst hfm F (E1:=X.xe) (E2:=X.xe) fun h2 Ts a0 k1 k2 k3 k4 k5=>?_
      have I1':=I1.pins_of (pins':=[]) fun p hp=>absurd hp (by simp)
      have hf5:∀ b,b=e∨b∈Ts→H1 b=none∧X.s₀.heap.get? b=none∧(∀ p∈(X.pn ++ pins) ++ [],p.1≠b)∧∃ o vs,s1.heap.get? b=some o∧o.data=.fields vs:=fun b hb=>⟨(k5 b hb).1,(k5 b hb).2.1.1,fun p hp=>(k5 b hb).2.1.2 p (by simpa using hp),(k5 b hb).2.2⟩
      have I2:=Inv.aft I1' (ng I1 k1 k4) hex hf5
      have J2:Inv (ku X pins e) [] σ1 H1 { s1 with heap:=h2 }:=nk (gY I2)
      have k3':=k3
      obtain ⟨oe,vs,T,oT,ts,t1,⟨t2,t3⟩,t4,_⟩:=k3'
      obtain ⟨xC,xm⟩:=xk c C hcm hC
      refine wpAny_handleBy_cons (codeAny_handlers_test (fN (X:=ku X pins e) J2 hgJ hmJ ?_ hdb)) (by intro z; cases z)
      refine qE (mg:=fun _=>some (.ref C)) (y:=n) J2.kIn (qz J2.kIn rfl xC) (qz J2.kIn hmJ KJ) t1 t2 xm ?_
      show Ki _ _ (.handlers (.ref e) [.ExceptHandler none (some n) [.Return (some hx) rp2] hpos] X.env) _ _
      refine codeAny_handlers_suite_as ?_
      refine LG (s:={ s1 with heap:=h2 }) k1 k2 k3.at fun h3 m1 m2 m3 m4=>?_
      have A3:Aft (zf X pins _) e Ts s1.heap h3:=ng I1 m1 fun b o q d=>by
       obtain ⟨sl,q'⟩:=k4 b o q d
       exact ⟨sl,m4 b _ q' d⟩
      have I3:=Inv.aft I1' A3 hex hf5
      obtain ⟨oe3,vs3,T3,oT3,ts3,u1,⟨u2,u3⟩,u4,_⟩:=m3
      have I4:=Inv.freeze I3 fe u1 u4 fn.1 fun p hp=>fn.2 p (by simpa using hp)
      have J4:Inv (ku X pins e) [] σ1 (upd H1 e (.frz oe3 (.ext fun _=>True))) { s1 with heap:=h3 }:=nk (gY I4)
      refine gu (X:=ku X pins e) J4 hN hi (.inl hl) (v:=.ref e) rfl (fun s5 J5=>?_) (.inr hl)
      have rep:Rep X.K (upd H1 e (.frz oe3 (.ext fun _=>True))) (.exn c) (.ref e):=⟨e,oe3,_,C,rfl,ak,u2,hC⟩
      have E5:Envs X.K (upd H1 e (.frz oe3 (.ext fun _=>True))) (σ1.set i (some (.ref e))) ((q_ N none).set i (some (.exn c))):=by
       refine Envs.set (ρ:=q_ N none) ⟨?_,fun j d hj=>?_⟩ rep
       · rw [I1.len,Jy]; exact hNl
       · rw [Kf] at hj
         split at hj <;> cases hj
      match hg:g ((q_ N none).set i (some (.exn c))) with
      | none=>rw [hg] at o; exact o.elim
      | some (.exc c2)=>rw [hg] at o; exact o.elim
      | some (.ok d) =>
       rw [hg] at o
       have hrun:=(lJ (qi (pos:=rp2) (hh pins e))).h [] s5 _ _ { nx:=fun _ _=>False,rt:=D.rt } J5 ⟨_,E5,(by
        unfold aI
        rw [hg]
        exact fun v H' e1 r=>o v H' ((same.trans (aq fe _)).trans e1) r)⟩
       refine HI hrun (fun fl s6 hs=>?_) fun _ _ z=>z.elim
       cases fl with
       | ret u =>
        obtain ⟨v,σ6,H6,J6,rv,q6⟩:=hs
        have J7:Inv X pins σ6 H6 s6:=oU I.ok J6
        have hil:i < σ6.length:=by rw [J7.len]; exact (v_.mp hi).1
        refine b_ (wpAny_bindName (gu J7 hN hi (.inl hl) (v:=.non) rfl (fun s7 J8=>?_) (.inr hl)))
        exact qD J8 hN hi hl (v:=.non) (B_ hil) fun s8 J9=>⟨v,_,H6,J9,rv,q6⟩
       | next=>obtain ⟨_,_,_,z⟩:=hs; exact Ht z
       | brk=>obtain ⟨_,_,_,z⟩:=hs; exact Ht z
       | cont=>obtain ⟨_,_,_,z⟩:=hs; exact Ht z
    · rw [if_neg hcm] at o
      exact o.elim
 · cases fl with
   | ret u =>
    obtain ⟨v,σ',H',I',rv,q⟩:=hs
    exact ⟨v,σ',H',gY I',rv,q⟩
   | next=>obtain ⟨_,_,_,z⟩:=hs; exact Ht z
   | brk=>obtain ⟨_,_,_,z⟩:=hs; exact Ht z
   | cont=>obtain ⟨_,_,_,z⟩:=hs; exact Ht z
end
end FD
namespace FD
open PySem PySem.Spec PyProof.Rows L2
def zg:List Dv→List Dv→Option (Rs Dv)
 | xs,[x]=>if cg x && xs.all cg && decide (xs.length≤100000) then some (.ok (.int (xs.countP (fun y=>eqF y x):Nat))) else none
 | _,_=>none
def A0:V→List V→Hp→VK→Prop:=fun x xs H Q=>∃ a vs y,x=.ref a∧xs=[y]∧H a=some (.lst vs)∧dk y=true∧vs.all dk=true∧vs.length≤100000∧Q (.int (vs.countP (fun v=>eqV v y):Nat)) H
section
variable {X:Cx} {apos cpos:Pos} {e o:Expr} {es:List Expr} {ga:FnA} {fo:FnE}
theorem iR {y:V}:∀ {vs:List V} {its:List Value},Vals vs its→vs.all dk=true→its.countP (eqU y)=vs.countP fun v=>eqV v y
 | _,_,.nil,_=>rfl
 | _,_,.cons (a:=v) (b:=u) r t,f=>by
  rw [Im,j_] at f
  rw [Kh,Kh,iR t f.2,mV r f.1]
theorem qF:MtR X "list.count" A0:=by
 intro pins s σ H x xs v us Q I rx rs h
 obtain ⟨a,vs,y,rfl,rfl,h1,fy,fv,hz,q⟩:=h
 cases rx
 obtain ⟨u,rfl,ru⟩:=cT rs
 obtain ⟨z,its,n,rv,hl,e⟩:=I.lstM h1
 refine JQ MZ ⟨_,e,rfl⟩ PySem.F.entry_list_count (PySem.F.args_list_count_2 _ _) (SeqAt.list_countAt a its.toArray n none #[] u (eqU y)) ⟨e,fun t ht=>c7 ru fy rv fv t (by simpa using ht),⟨.int (vs.countP (fun v=>eqV v y):Nat),H,I.tok _,⟨s.toks,?_⟩,q⟩⟩
 have:=iR (y:=y) rv fv
 rw [Mb,this]
theorem vY {K:ck} {H:Hp} {x:Dv} {u:V} (q:Rep K H x u) (hx:cg x=true):∀ {xs:List Dv} {vs:List V},Reps K H xs vs→xs.all cg=true→vs.countP (fun v=>eqV v u)=xs.countP fun y=>eqF y x
 | [],vs,r,_=>by cases (show vs=[] from r); rfl
 | y :: ys,vs,r,f=>by
  obtain ⟨v,ws,rfl,r1,r2⟩:∃ v us,vs=v :: us∧Rep K H y v∧Reps K H ys us:=r
  rw [Im,j_] at f
  rw [Kh,Kh,vY q hx r2 f.2,qo r1 q f.1 hx]
theorem uD (ho:FE X o fo) (ha:FA X (e :: es) ga)
 (hbase:IU o "count" X.env (eval o X.env)=eval o X.env:=by kernel_rfl)
 (hfew:((Ho cpos (f_ (e :: es) X.env)).all (fun x=>!x.1) && (Jn cpos (Io [] X.env)).all (fun x=>x.1.isSome)
   && decide ((e :: es).length + ([]:List Jc).length + (if ([]:List Jc).isEmpty then 0 else 1) < 30))=true:=by kernel_rfl)
 (hline:(apos.endLine == cpos.line)=true:=by kernel_rfl) (hs:f_ (e :: es) X.env=(false,eval e X.env) :: f_ es X.env:=by kernel_rfl) (hplain:(Ho cpos (f_ es X.env)).any (·.1)=false:=by kernel_rfl) :
 FE X (.Call (.Attribute o "count" apos) (e :: es) [] cpos) (fML zg fo ga) :=
 bO (oN Jm MZ PySem.F.type_list_count qF ho.h ha.h hbase hfew hline hs hplain) fun σ H Q ρ E o=>⟨ρ,E,Out.bind o fun d v H1 e1 rd o1=>by
  cases d <;> try exact (show False from o1).elim
  rename_i ds
  obtain ⟨a,vs,rfl,h1,h2⟩:=rd.lstE
  refine ⟨.inl ⟨rfl,vs,SqL.of h1⟩,ρ,E.mono e1,OutA.bind o1 fun es ws H2 e2 rs o2=>?_⟩
  unfold zg at o2
  split at o2
  · rename_i x
    split at o2
    · rename_i hc
      rw [j_,j_] at hc
      obtain ⟨w,rfl,rw'⟩:=bD rs
      have h2':=Reps.mono e2 _ _ h2
      refine ⟨a,vs,w,rfl,rfl,e2 _ _ h1,jr rw' hc.1.1,gz h2' hc.1.2,by rw [h2.length]; exact of_decide_eq_true hc.2,?_⟩
      rw [vY rw' hc.1.1 h2' hc.1.2]
      exact o2 _ H2 (.refl H2) rfl
    · exact o2.elim
  · exact o2.elim⟩
end
section
variable {X:Cx} {a b c:Expr} {fa fb fc:FnE} {pos:Pos}
end
def nn (x:Str) (n:Int):Str:=if n < 1 then PK else if (n == 1 || x.length == 0)=true then x else ⟨(q_ n.toNat x.cps).foldl (· ++ ·) #[]⟩
def Gg:Dv→Dv→Option (Rs Dv)
 | .str x,.int n=>if x.length≤1000∧-1000≤n∧n≤1000 then some (.ok (.str (nn x n))) else none
 | x,y=>fj x y
section
variable {X:Cx}
def uE:R2:=fun x y H Q=>∃ i n,x=.str i∧y=.int n∧(i.length≤1000∧-1000≤n∧n≤1000)∧Q (.str (nn i n)) H
theorem nq (a:Array Nat):∀ (k:Nat) (acc:Array Nat),((q_ k a).foldl (· ++ ·) acc).size=acc.size + k * a.size
 | 0,acc=>by simp
 | k + 1,acc=>by
  rw [ID,L9,nq a k (acc ++ a),ML,Nat.succ_mul]
  omega
theorem qG {a n:Nat} (h1:a≤1000) (h2:n≤1000):n * a≤sizeLine:=by
 have h3:n * a≤1000 * 1000:=Nat.mul_le_mul h2 h1
 rw [LV]
 exact Hm h3 (by decide)
theorem op_mulS:OpR X (Jd .Mult) uE:=by
 intro pins s σ H x y v u Q I rx ry ⟨i,n,hx,hy,hc,q⟩
 subst hx hy
 obtain ⟨t,rfl⟩:=rx
 obtain ⟨t2,rfl⟩:=ry
 have h0:(decide (n < -(2 ^ 63:Int)) || decide (n ≥ 2 ^ 63))=false:=by
  have h1:¬ n < -(2 ^ 63:Int):=by omega
  have h2:¬ n ≥ 2 ^ 63:=by omega
  rw [decide_eq_false h1,decide_eq_false h2]; rfl
 refine P.mul_str h0 (fun h1 h2 h3=>?_) (fun h1 h2=>?_) ?_
 · have hn:0 < n:=by omega
   have e1:=Int.mul_ediv_add_emod (2 ^ 63 - 1) n
   have e2:=IJ (2 ^ 63 - 1) hn
   have hq:(2 ^ 63 - 1:Int) / n < 1000:=by omega
   have hq0:0≤(2 ^ 63 - 1:Int) / n:=Int.ediv_nonneg (by decide) (by omega)
   have h4:n * ((2 ^ 63 - 1:Int) / n)≤1000 * ((2 ^ 63 - 1:Int) / n):=Int.mul_le_mul_of_nonneg_right hc.2.2 hq0
   omega
 · show decide (i.length * n.toNat > sizeLine)=false
   have:=qG (a:=i.length) (n:=n.toNat) hc.1 (by omega)
   rw [OJ]
   exact decide_eq_false (by omega)
 · unfold nn at q
   split
   · rename_i h1
     rw [if_pos h1] at q
     exact ⟨by decide,⟨.str PK,H,I.tok _,⟨_,rfl⟩,q⟩⟩
   · rename_i h1
     rw [if_neg h1] at q
     split
     · rename_i h2
       rw [if_pos h2] at q
       exact ⟨.str i,H,I,⟨_,rfl⟩,q⟩
     · rename_i h2
       rw [if_neg h2] at q
       refine ⟨?_,⟨.str _,H,I.tok _,⟨_,rfl⟩,q⟩⟩
       show ((q_ n.toNat i.cps).foldl (· ++ ·) #[]).size≤sizeLine
       rw [nq]
       have:=qG (a:=i.length) (n:=n.toNat) hc.1 (by omega)
       have e:i.cps.size=i.length:=rfl
       rw [e]
       simpa using this
theorem Ba:OpR X (Jd .Mult) (fun x y H Q=>uE x y H Q∨rI CMul (fun i j=>.int (i * j)) x y H Q):=op_mulS.or vL
theorem vZ:GOp X (fun x y H Q=>uE x y H Q∨rI CMul (fun i j=>.int (i * j)) x y H Q) Gg:=by
 intro dx dy x y H Q rx ry o
 cases dx with
 | str i =>
  cases dy with
  | int n =>
   have o2:Out X H (if i.length≤1000∧-1000≤n∧n≤1000 then some (.ok (.str (nn i n))) else none) Q:=o
   by_cases hc:i.length≤1000∧-1000≤n∧n≤1000
   · rw [if_pos hc] at o2
     exact .inl ⟨i,n,rx,ry,hc,o2 _ H (.refl H) rfl⟩
   · rw [if_neg hc] at o2
     exact o2.elim
  | _=>exact (show False from o).elim
 | _=>exact .inr (Ar _ _ x y H Q rx ry o)
end
end FD
namespace FD
open PySem PySem.Spec PyProof.Rows L2 PySem.W
def xiB (K:ck) (C:Addr):Bool:=findIn K (.ref C) "__getattribute__" == some (some (.builtin "BaseException.__getattribute__")) && findIn K (.ref C) "__getattr__" == some none && findIn K (.ref C) "__class__" == some (some (.builtin "object.__class__")) &&
 specialIn K (.builtin "object.__class__") "__get__" == some (some (.builtin "getset_descriptor.__get__")) && takesIn K (.builtin "object.__class__") == some true && mroIn K C (.type "object") == some true && mroIn K C (.type "BaseException") == some true
theorem ED {K:ck} {C:Addr} (h:xiB K C=true):XI K C:=by
 unfold xiB at h
 simp only [j_,beq_iff_eq] at h
 exact ⟨h.1.1.1.1.1.1,h.1.1.1.1.1.2,h.1.1.1.1.2,h.1.1.1.2,h.1.1.2,h.1.2,h.2⟩
structure XAll (K:ck) (m:Nat) (cls:Nat→Addr) (CJ:Addr):Prop where
 at_:∀ c,c < m→nsIn K C_ (xnm c)=some (some (.ref (cls c)))∧excIn K (cls c) bmV "ValueError.__new__"=true∧XI K (cls c)∧mroIn K (cls c) (.ref CJ)=some true∧kitOne K (.ref (cls c)) (.type "ValueError")=some true∧∀ d,d < m→kitOne K (.ref (cls c)) (.ref (cls d))=some (c == d)
 exJ:excIn K CJ bmV "ValueError.__new__"=true
section
variable {K:ck} {m:Nat} {cls:Nat→Addr} {CJ:Addr} (x:XAll K m cls CJ)
include x
theorem XAll.xc (c:Nat) (h:c < m):XC K c (cls c):=⟨(x.at_ c h).1,(x.at_ c h).2.1⟩
theorem XAll.same {c:Nat} {C:Addr} (h:c < m) (q:nsIn K C_ (xnm c)=some (some (.ref C))):C=cls c:=by
 have z:=(x.at_ c h).1
 rw [q] at z
 cases z
 rfl
theorem XAll.xk:∀ c C,c < m→nsIn K C_ (xnm c)=some (some (.ref C))→excIn K C bmV "ValueError.__new__"=true∧mroIn K C (.ref CJ)=some true:=fun c C h q=>by
 rw [x.same h q]
 exact ⟨(x.at_ c h).2.1,(x.at_ c h).2.2.2.1⟩
theorem XAll.xtO (d:Nat) (hd:d < m):XT K (fun c=>if c < m then some (c == d) else none) (.ref (cls d)):=fun c b hb C q=>by
 dsimp only at hb
 split at hb
 · rename_i h
   cases hb
   rw [x.same h q]
   exact ⟨(x.at_ c h).2.2.1,(x.at_ c h).2.2.2.2.2 d hd⟩
 · cases hb
theorem XAll.xtV:XT K (fun c=>if c < m then some true else none) (.type "ValueError"):=fun c b hb C q=>by
 dsimp only at hb
 split at hb
 · rename_i h
   cases hb
   rw [x.same h q]
   exact ⟨(x.at_ c h).2.2.1,(x.at_ c h).2.2.2.2.1⟩
 · cases hb
end
end FD
namespace FD
open PySem
theorem jC:Iq (a_ "ValueError")=some (.type "ValueError"):=by kernel_rfl
end FD
namespace FD
open PySem PySem.Spec PyProof.Rows L2
section
variable {X:Cx}
end
section
variable {X:Cx}
def ci (x y:Dv):Option (Rs Dv):=match x,y with
 | .tup a,.tup b=>if a.length + b.length≤100000 then some (.ok (.tup (a ++ b))) else none
 | x,y=>ef x y
theorem uF {prog:Program} {w:D_} {A:w_} {E:Value→c_→Prop} {s:c_} {t b:Addr} {ws:List Value} {Q:Value→c_→Prop} (ht:Py s.heap t #[]) (hb:Py s.heap b ws.toArray) (h0:Q (.ref b) s) :
 k_ (p_ prog w) A (Jd .Add (.ref t) (.ref b)) Q E s:=by
 obtain ⟨⟨cls,dd,data,sl⟩,ho,hc,n,hd⟩:=id ht
 obtain ⟨⟨cls2,dd2,data2,sl2⟩,ho2,hc2,n2,hd2⟩:=id hb
 simp only at hc hd hc2 hd2
 subst hc hd hc2 hd2
 exact Ov ⟨_,ho,rfl⟩ ⟨_,ho2,rfl⟩ MT N5 Lu Lj (K4 _ _)
  (tuple_addW0 t b #[] ws.toArray n n2 dd dd2 sl sl2 (by simp)) ⟨ho,ho2,h0⟩
def v3 (K:ck):R2:=fun x y H Q=>∃ a b ys,x=.ref a∧y=.ref b∧SqT K H a []∧SqT K H b ys∧Q (.ref b) H
theorem uG:OpR X (Jd .Add) (v3 X.K):=by
 intro pins s σ H x y v u Q I rx ry h
 obtain ⟨a,b,ys,rfl,rfl,ha,hb,q⟩:=h
 cases rx
 cases ry
 obtain ⟨its,r1,p1,_⟩:=I.tuple ha
 obtain ⟨its2,r2,p2,_⟩:=I.tuple hb
 cases r1
 exact uF p1 p2 ⟨.ref b,H,I,rfl,q⟩
def Bb (X:Cx):R2:=fun x y H Q=>wX x y H Q∨(zT X.K x y H Q∨v3 X.K x y H Q)
theorem Bc:OpR X (Jd .Add) (Bb X):=o_add.or (op_catT.or uG)
theorem qH {x y:Dv} (h:∀ a b,¬ (x=.tup a∧y=.tup b)):ci x y=ef x y:=by
 unfold ci
 split
 · rename_i a b
   exact absurd ⟨rfl,rfl⟩ (h a b)
 · rfl
theorem Bd:GOp X (Bb X) ci:=by
 intro dx dy x y H Q rx ry o
 by_cases hc:∃ a b,dx=.tup a∧dy=.tup b
 · obtain ⟨a,b,rfl,rfl⟩:=hc
   have o':Out X H (if a.length + b.length≤100000 then some (.ok (.tup (a ++ b))) else none) Q:=o
   split at o'
   · rename_i hl
     obtain ⟨p,xs,rfl,h1,q1⟩:=rx.tupE
     obtain ⟨p2,ys,rfl,h2,q2⟩:=ry.tupE
     cases xs with
     | nil =>
      have ha:a=[]:=by
       have:=q1.length
       exact IQ.mp this.symm
      subst ha
      exact .inr (.inr ⟨p,p2,ys,rfl,rfl,SqT.of h1,SqT.of h2,o' _ H (.refl H) ⟨p2,ys,rfl,h2,by simpa using q2⟩⟩)
     | cons x0 xs =>
      refine .inr (.inl ⟨p,p2,x0 :: xs,ys,rfl,rfl,SqT.of h1,SqT.of h2,by simp,by rw [q1.length,q2.length]; exact ba hl,fun hy=>?_,fun hy l hl=>o' _ _ (aq hl _) ⟨l,_,rfl,ak,Reps.mono (aq hl _) _ _ (q1.append q2)⟩⟩)
      subst hy
      have hb:b=[]:=IQ.mp q2.length.symm
      subst hb
      exact o' _ H (.refl H) ⟨p,_,rfl,h1,by simpa using q1⟩
   · exact o'.elim
 · rw [qH (fun a b h=>hc ⟨a,b,h⟩)] at o
   exact .inl (Aq dx dy x y H Q rx ry o)
theorem eC {prog:Program} {w:D_} {A:w_} {E:Value→c_→Prop} {s:c_} {t sl:Addr} {items:Array Value} {vl vu:Value} {lo hi:Option Int} {Q:Value→c_→Prop} (ht:Py s.heap t items) (hs:s.heap.IsSliceOf sl vl vu .none) (pl:Nh vl lo) (pu:Nh vu hi)
 (hw:HT.sIx items.size 0 lo=0∧HT.sIx items.size items.size hi=items.size) (h:Q (.ref t) s):k_ (p_ prog w) A (Nd (.ref t) (.ref sl)) Q E s:=by
 obtain ⟨os,hos,hcs,hds⟩:=id hs
 have hTs:s.TypeIs (.ref sl) "slice":=⟨os,hos,hcs⟩
 unfold Nd
 try with_reducible refine HX ?_
 first | refine b_ (d_ ?_) | skip
 refine b_ (wpAny_sequenceKey ht.typeIs (by decide) ?_)
 refine b_ (HJ (name:=a_ "__getitem__") ht.typeIs Ia
  (HS Ia ht.typeIs entry_tuple_getitem ?_ (args_tuple_getitem _ _)))
 show k_ _ _ (Mt (.ref t) >>= _) _ _ s
 refine b_ (tupleItemsOf_ ht ?_)
 refine b_ (JH hTs ?_)
 rw [if_pos (by decide)]
 refine b_ (HT.sliceApplied_gen hs pl pu ?_)
 have hyes:(((HT.sIx items.size 0 lo:Nat):Int) == 0 && (1:Int) == 1 && (HT.sIx items.size items.size hi - HT.sIx items.size 0 lo) == items.size)=true:=by
  rw [hw.1,hw.2]
  simp
 show k_ _ _ (if (((HT.sIx items.size 0 lo:Nat):Int) == 0 && (1:Int) == 1 && (HT.sIx items.size items.size hi - HT.sIx items.size 0 lo) == items.size)=true then _ else _) _ _ s
 rw [if_pos hyes]
 refine b_ (b_ (JH ht.typeIs (d_ ?_)))
 rw [if_pos (by decide)]
 exact b_ (JP (d_ ⟨_,rfl,d_ h⟩))
def GM (K:ck):V→Option Int→Option Int→Hp→VK→Prop:=fun x lo hi H Q=>∃ a xs,x=.ref a∧SqT K H a xs ∧
 (HT.sIx xs.length 0 lo=0∧HT.sIx xs.length xs.length hi=xs.length)∧Q (.ref a) H
theorem uH:SlR X (GM X.K):=by
 intro pins s σ H x v vl vu lo hi sl Q I rx hs pl pu h
 obtain ⟨a,xs,rfl,hx,hw,q⟩:=h
 cases rx
 obtain ⟨its,r,ht,hz⟩:=I.tuple hx
 have hlen:its.toArray.size=xs.length:=by rw [uk]; exact r.length.symm
 refine ⟨"tuple",_,Ia.lookup,ht.typeIs,?_⟩
 exact eC ht hs pl pu (by rw [hlen]; exact hw) ⟨.ref a,H,I,rfl,q⟩
def EE (x:Dv) (lo hi:Option Int):Option (Rs Dv):=match x with
 | .tup xs=>some (.ok (.tup (tG xs lo hi)))
 | x=>Dh x lo hi
def uI (fa:FnE) (fl fh:FnO):FnE:=fun ρ=>bnd (fa ρ) fun x=>bnd (fl ρ) fun lo=>bnd (fh ρ) fun hi=>EE x lo hi
theorem oV {α:Type} {xs:List α} {lo hi:Option Int} (h:HT.sIx xs.length 0 lo=0∧HT.sIx xs.length xs.length hi=xs.length):tG xs lo hi=xs:=by
 unfold tG
 rw [h.1,h.2]
 simp
theorem xD {a:Expr} {lo hi:Option Expr} {fa:FnE} {fl fh:FnO} {p2 pos:Pos} (ha:FE X a fa) (hl:FO X lo fl) (hh:FO X hi fh):FE X (.Subscript a (.Slice lo hi none p2) pos) (uI fa fl fh) :=
 bO (mU ((sl_str.or qc).or (sl_tup.or uH)) ha.h hl.h hh.h) fun σ H Q ρ E o=>⟨ρ,E,Out.bind o fun d v H1 e1 r1 o1=>⟨ρ,E.mono e1,fm o1 fun l H2 e2 o2=>⟨ρ,(E.mono e1).mono e2,fm o2 fun u H3 e3 o3=>by
  have r3:=Rep.mono e3 d v (Rep.mono e2 d v r1)
  cases d <;> try exact (show False from o3).elim
  · rename_i z
    unfold EE Dh at o3
    dsimp only at o3
    split at o3
    · rename_i hz
      exact .inl (.inl ⟨z,r3,ba hz,o3 _ H3 (.refl H3) rfl⟩)
    · exact o3.elim
  · rename_i ds
    obtain ⟨a',xs,rfl,h1,h2⟩:=r3.tupE
    have hlen:=h2.length
    by_cases hw:HT.sIx xs.length 0 l=0∧HT.sIx xs.length xs.length u=xs.length
    · refine .inr (.inr ⟨a',xs,rfl,SqT.of h1,hw,o3 _ H3 (.refl H3) ⟨a',xs,rfl,h1,?_⟩⟩)
      rw [oV (by rw [← hlen]; exact hw)]
      exact h2
    · refine .inr (.inl ⟨a',xs,rfl,SqT.of h1,hw,fun p hp=>o3 _ _ (aq hp _) ⟨p,_,rfl,ak,Reps.mono (aq hp _) _ _ ?_⟩⟩)
      unfold tW tG
      rw [h2.length]
      exact (h2.drop _).take _
  · rename_i ds
    obtain ⟨a',xs,rfl,h1,h2⟩:=r3.lstE
    refine .inl (.inr ⟨a',xs,rfl,SqL.of h1,fun p hp=>o3 _ _ (aq hp _) ⟨p,_,rfl,ak,Reps.mono (aq hp _) _ _ ?_⟩⟩)
    unfold tW tG
    rw [h2.length]
    exact (h2.drop _).take _⟩⟩⟩
theorem Reps.reverse {K:ck} {H:Hp}:∀ {ds:List Dv} {vs:List V},Reps K H ds vs→Reps K H ds.reverse vs.reverse
 | [],vs,r=>by cases (show vs=[] from r); exact r
 | d :: ds,vs,r=>by
  obtain ⟨v,us,rfl,r1,r2⟩:∃ v us,vs=v :: us∧Rep K H d v∧Reps K H ds us:=r
  rw [JM,JM]
  exact (Reps.reverse r2).append ⟨v,[],rfl,r1,rfl⟩
theorem Vals.reverse:∀ {xs:List V} {us:List Value},Vals xs us→Vals xs.reverse us.reverse
 | _,_,.nil=>.nil
 | x :: xs,u :: us,.cons r t=>by
  rw [JM,JM]
  exact (Vals.reverse t).append (.cons r .nil)
def qI:List Dv→Option (Rs Dv)
 | [.lst xs]=>some (.ok (.lst xs))
 | [.tup xs]=>some (.ok (.lst xs))
 | _=>none
theorem xE {p pos:Pos} {e:Expr} {es:List Expr} {ga:FnA} (hg:Gl X "list") (hm:X.mg "list"=none) (ha:FA X (e :: es) ga) (he:f_ (e :: es) X.env=(false,eval e X.env) :: f_ es X.env:=by kernel_rfl) (hpl:(Ho pos (f_ es X.env)).any (·.1)=false:=by kernel_rfl):FE X (.Call (.Name "list" p) (e :: es) [] pos) (fB1 qI ga) :=
 bO (gO gc hg hm (by decide +kernel) ha.h (by decide) (by decide) he hpl) fun σ H Q ρ E o=>⟨ρ,E,OutA.bind o fun ds vs H1 e1 rs o1=>by
  unfold qI at o1
  split at o1
  · rename_i xs
    obtain ⟨v,rfl,r⟩:=bD rs
    obtain ⟨a,ws,rfl,h1,h2⟩:=r.lstE
    exact ⟨a,ws,rfl,.inl (SqL.of h1),fun l hl=>o1 _ _ (aq hl _) ⟨l,ws,rfl,ak,Reps.mono (aq hl _) _ _ h2⟩⟩
  · rename_i xs
    obtain ⟨v,rfl,r⟩:=bD rs
    obtain ⟨a,ws,rfl,h1,h2⟩:=r.tupE
    exact ⟨a,ws,rfl,.inr (SqT.of h1),fun l hl=>o1 _ _ (aq hl _) ⟨l,ws,rfl,ak,Reps.mono (aq hl _) _ _ h2⟩⟩
  · exact o1.elim⟩
def inP (x:Dv) (ys:List Dv):Option Bool:=if okP x && decide ((bN x).depth≤63) && IZ (toPys ys) then some ((toPys ys).any fun y=>HZ y (bN x)) else none
def Be (x y:Dv):Option Bool:=match w5 x y with
 | some b=>some b
 | none=>match y with
  | .lst ys=>inP x ys
  | .tup ys=>inP x ys
  | _=>none
def inX (x y:Dv):Option (Rs Dv):=match Be x y with
 | some b=>some (.ok (.bl b))
 | none=>none
def cH (x y:Dv):Option (Rs Dv):=match Be x y with
 | some b=>some (.ok (.bl (!b)))
 | none=>none
def Gh (X:Cx) (neg:Bool):R2:=fun x y H Q=>∃ dx ys b,Rep X.K H dx x∧(Rep X.K H (.lst ys) y∨Rep X.K H (.tup ys) y)∧inP dx ys=some b∧Q (.bl (if neg then !b else b)) H
theorem qJ (hu:X.A.units + 64 < cLine):OpR X (Hu .NotIn) (Gh X true):=by
 intro pins s σ H x y v u Q I rx ry h
 obtain ⟨dx,ys,b,qx,qy,hb,q⟩:=h
 unfold inP at hb
 split at hb
 · rename_i hc
   cases hb
   obtain ⟨⟨c1,c2⟩,c3⟩:(okP dx=true∧(bN dx).depth≤63)∧IZ (toPys ys)=true:=by simpa using hc
   obtain ⟨as,ra⟩:=Rep.reads I dx x v qx rx (IS.mp c1).1
   have hd:X.A.units + 1 + min (K7 (toPys ys)) (bN dx).depth < cLine:=by
    have:=O1 (K7 (toPys ys)) (bN dx).depth
    omega
   rcases qy with qy | qy
   · obtain ⟨bs,rb⟩:=Rep.reads I (.lst ys) y u qy ry (by simpa [bN,HQ] using c3)
     exact SeqAt.notIn_list_reads rb ra c3 (IS.mp c1).1 hd ⟨.bl _,H,I,rfl,q⟩
   · obtain ⟨bs,rb⟩:=Rep.reads I (.tup ys) y u qy ry (by simpa [bN,HQ] using c3)
     exact SeqAt.notIn_tuple_reads rb ra c3 (IS.mp c1).1 hd ⟨.bl _,H,I,rfl,q⟩
 · cases hb
def qK (X:Cx):R2:=fun x y H Q=>lK X.K x y H Q∨Gh X true x y H Q
theorem uJ (hu:X.A.units + 64 < cLine):OpR X (Hu .NotIn) (qK X):=o_notIn.or (qJ hu)
theorem uK:GOp X (qK X) cH:=by
 intro dx dy x y H Q rx ry o
 unfold cH Be at o
 match h0:w5 dx dy with
 | some b =>
  rw [h0] at o
  exact .inl (qp dx dy x y H Q rx ry (by unfold kl; rw [h0]; exact o))
 | none =>
  rw [h0] at o
  cases dy <;> try exact (show False from o).elim
  · rename_i ys
    match hp:inP dx ys with
    | none=>simp only [hp] at o; exact (show False from o).elim
    | some b=>simp only [hp] at o; exact .inr ⟨dx,ys,b,rx,.inr ry,hp,o _ H (.refl H) rfl⟩
  · rename_i ys
    match hp:inP dx ys with
    | none=>simp only [hp] at o; exact (show False from o).elim
    | some b=>simp only [hp] at o; exact .inr ⟨dx,ys,b,rx,.inl ry,hp,o _ H (.refl H) rfl⟩
def Dt:Str→List Dv→Option (Rs Dv)
 | x,[.str y]=>match Hx x y 0 x.length 1 with
  | i :: _=>some (.ok (.int i))
  | []=>none
 | _,_=>none
def Gi:V→List V→Hp→VK→Prop:=fun x xs H Q=>∃ i j k l,x=.str i∧xs=[.str j]∧Hx i j 0 i.length 1=k :: l∧Q (.int (k:Nat)) H
theorem Bf:MtR X "str.index" Gi:=by
 intro pins s σ H x xs v us Q I rx rs h
 obtain ⟨i,j,k,l,rfl,rfl,ho,q⟩:=h
 obtain ⟨t,rfl⟩:=rx
 obtain ⟨u,rfl,ru⟩:=cT rs
 obtain ⟨t',rfl⟩:=ru
 exact SC.index ho ⟨.int _,H,I.tok _,⟨_,rfl⟩,q⟩
theorem EF (i:Str) (ds:List Dv) (vs:List V) (H:Hp) (Q:VK) (rs:Reps X.K H ds vs) (o:Out X H (Dt i ds) Q):Gi (.str i) vs H Q:=by
 unfold Dt at o
 split at o
 · rename_i j
   obtain ⟨w,rfl,rw'⟩:=bD rs
   cases (show w=.str j from rw')
   match hk:Hx i j 0 i.length 1 with
   | []=>rw [hk] at o; exact o.elim
   | k :: l=>rw [hk] at o; exact ⟨i,j,k,l,rfl,rfl,hk,o _ H (.refl H) rfl⟩
 · exact o.elim
end
abbrev xF (its:List Value) (n:Nat):Obj:={ cls:=.type "list",data:=.seq its.toArray n }
section
variable {X:Cx} {pins:List (Addr×Obj)} {σ:L2.St} {H:Hp} {s:c_} {a:Addr} {xs:List V}
theorem Inv.untrack (I:Inv X pins σ (upd H a (.lst xs)) s) (ha:H a=none) (hex:X.ex=[]):∃ its n,Vals xs its∧xs.length≤sizeLine∧(∀ o,X.s₀.heap.get? a=some o→X.H₀ a≠none)∧(∀ p∈X.pn ++ pins,p.1≠a)∧Inv X (pins ++ [(a,xF its n)]) σ H s:=by
 obtain ⟨z,its,n,rv,hl,e⟩:=I.lstM (l:=a) (xs:=xs) ak
 have hb:∀ b u,H b=some u→b≠a:=fun b u q=>am q ha
 have low:∀ b,upd H a (.lst xs) b=none→H b=none:=fun b q=>by
  by_cases hba:b=a
  · rw [hba]; exact ha
  · rw [al hba] at q; exact q
 have dn:∀ b u,upd H a (.lst xs) b=some u→(∀ ys,u≠.lst ys)→H b=some u:=fun b u q hu=>by
  by_cases hba:b=a
  · rw [hba,ak] at q
    exact absurd (HN q).symm (hu xs)
  · rw [al hba] at q; exact q
 have nfs:a ∉ X.fs:=fun hm=>by
  obtain ⟨_,o,ho,_⟩:=I.ok.funs.mem hm
  have:=I.base.free a o ho (I.ok.frf a hm) (by rw [hex]; simp)
  rw [ak] at this
  cases this
 have npin:∀ p∈X.pn ++ pins,p.1≠a:=fun p hp w=>by
  have:=(I.pin p hp).2.1
  rw [w,ak] at this
  cases this
 refine ⟨its,n,rv,z,fun o ho h0=>?_,npin,⟨I.ok,I.os,I.bare,⟨I.base.keep,I.base.slot,fun b o q n hx=>low b (I.base.free b o q n hx),I.base.there,fun b ys q=>dn b _ (I.base.tups b ys q) (fun _ w=>by cases w),fun b o u q=>dn b _ (I.base.frzs b o u q) (fun _ w=>by cases w),fun b ps q=>?_⟩,I.loc,I.cell,low _ I.free,fun x c q=>low _ (I.freeC x c q),fun p hp=>?_,fun b u q=>?_,I.len⟩⟩
 · have:=I.base.free a o ho h0 (by rw [hex]; simp)
   rw [ak] at this
   cases this
 · obtain ⟨more,q'⟩:=I.base.tbls b ps q
   exact ⟨more,dn b _ q' (fun _ w=>by cases w)⟩
 · rcases HC.mp hp with h1 | h1
   · obtain ⟨q1,q2,q3⟩:=I.pin p (Hv _ h1)
     exact ⟨q1,low _ q2,q3⟩
   · rcases HC.mp h1 with h1 | h1
     · obtain ⟨q1,q2,q3⟩:=I.pin p (r_ _ h1)
       exact ⟨q1,low _ q2,q3⟩
     · simp only [Ih] at h1
       subst h1
       refine ⟨e,ha,fun w=>?_,nfs,fun v w=>by cases w⟩
       obtain ⟨m,⟨o,es,ep,ho,hd,_⟩,_⟩:=I.loc
       have w':a=X.env.locals:=w
       rw [← w',e] at ho
       cases ho
       cases hd
 · have hq:upd H a (.lst xs) b=some u:=by rw [al (hb b u q)]; exact q
   refine (I.hok b u hq).stay (fun _ _ _ w=>w) (fun c w=>dn c _ w (fun _ w=>by cases w)) fun c ys w=>dn c _ w (fun _ w=>by cases w)
theorem Inv.retrack {its:List Value} {n:Nat} (I:Inv X (pins ++ [(a,xF its n)]) σ H s) (rv:Vals xs its) (hz:xs.length≤sizeLine) (h0:∀ o,X.s₀.heap.get? a=some o→X.H₀ a≠none) (hp0:∀ p∈X.pn ++ pins,p.1≠a):H a=none∧Inv X pins σ (upd H a (.lst xs)) s:=by
 obtain ⟨e,ha,nL,nf,nc⟩:=I.pin (a,xF its n) (r_ _ (r_ _ (by simp)))
 have up:∀ b u,H b=some u→upd H a (.lst xs) b=some u:=fun b u q=>by rw [al (am q ha)]; exact q
 have lo:∀ b,H b=none→b≠a→upd H a (.lst xs) b=none:=fun b q h=>by rw [al h]; exact q
 refine ⟨ha,⟨I.ok,I.os,I.bare,⟨I.base.keep,I.base.slot,fun b o q n hx=>lo b (I.base.free b o q n hx) (fun w=>h0 o (w ▸ q) (w ▸ n)),I.base.there,fun b ys q=>up b _ (I.base.tups b ys q),fun b o u q=>up b _ (I.base.frzs b o u q),fun b ps q=>?_⟩,I.loc,I.cell,lo _ I.free (IG nL),fun x c q=>lo _ (I.freeC x c q) (fun w=>?_),fun p hp=>?_,fun b u q=>?_,I.len⟩⟩
 · obtain ⟨more,q'⟩:=I.base.tbls b ps q
   exact ⟨more,up b _ q'⟩
 · obtain ⟨v,o,ho,hd⟩:=I.cell x c q
   rw [w] at ho
   have e':s.heap.get? a=some (xF its n):=e
   rw [e'] at ho
   cases ho
   cases hd
 · obtain ⟨q1,q2,q3⟩:=I.pin p (by
    rcases HC.mp hp with h1 | h1
    · exact Hv _ h1
    · exact r_ _ (Hv _ h1))
   exact ⟨q1,lo _ q2 (hp0 p hp),q3⟩
 · by_cases hb:b=a
   · subst hb
     rw [ak] at q
     cases q
     exact ⟨hz,its,n,rv,e⟩
   · rw [al hb] at q
     exact (I.hok b u q).stay (fun _ _ _ w=>w) (fun c w=>up c _ w) fun c ys w=>up c _ w
end
def EG (t:TE):TE:=fun σ Hf Q=>∃ H a xs,Hf=upd H a (.lst xs)∧H a=none∧t σ H fun v H'=>H' a=none→Q v (upd H' a (.lst xs))
def EH (t:TA):TA:=fun σ Hf Q=>∃ H a xs,Hf=upd H a (.lst xs)∧H a=none∧t σ H fun v H'=>H' a=none→Q v (upd H' a (.lst xs))
def EI (t:TI):TI:=fun σ Hf Q=>∃ H a xs,Hf=upd H a (.lst xs)∧H a=none∧t σ H fun v H'=>H' a=none→Q v (upd H' a (.lst xs))
section
variable {X:Cx} {e:Expr} {es:List Expr}
theorem xG (hex:X.ex=[]) {t:TE} (h:PE X e t):PE X e (EG t):=by
 intro pins s σ Hf Q I ⟨H,a,xs,e1,ha,q⟩
 subst e1
 obtain ⟨its,n,rv,hz,h0,hp,I'⟩:=Inv.untrack I ha hex
 refine thn (h _ s σ H _ I' q) fun u s' ⟨v,H',I2,r,q2⟩=>?_
 obtain ⟨ha',I3⟩:=Inv.retrack I2 rv hz h0 hp
 exact ⟨v,_,I3,r,q2 ha'⟩
theorem xH (hex:X.ex=[]) {t:TA} (h:PA X es t):PA X es (EH t):=by
 intro pos pins s σ Hf Q I ⟨H,a,xs,e1,ha,q⟩
 subst e1
 obtain ⟨its,n,rv,hz,h0,hp,I'⟩:=Inv.untrack I ha hex
 refine thn (h pos _ s σ H _ I' q) fun u s' ⟨v,H',I2,r,q2⟩=>?_
 obtain ⟨ha',I3⟩:=Inv.retrack I2 rv hz h0 hp
 exact ⟨v,_,I3,r,q2 ha'⟩
theorem xI (hex:X.ex=[]) {tg:Expr} {t:TI} (h:PI X tg e t):PI X tg e (EI t):=by
 intro pins s σ Hf R I ⟨H,a,xs,e1,ha,q⟩
 subst e1
 obtain ⟨its,n,rv,hz,h0,hp,I'⟩:=Inv.untrack I ha hex
 refine thn (h _ s σ H _ I' q) fun u s1 hs1=>thn hs1 fun itv s2 ⟨it,fp,tn,J,H',e2,I2,T,t0,fpo,q2⟩=>?_
 obtain ⟨ha',I3⟩:=Inv.retrack I2 rv hz h0 hp
 refine ⟨it,fp,tn,J,_,e2,I3,T,t0,fun b hb=>?_,q2 ha'⟩
 obtain ⟨g0,g1,g2,g3,g4,g5⟩:=fpo b hb
 have hba:b≠a:=fun w=>g5 (a,xF its n) (r_ _ (r_ _ (by simp))) w.symm
 refine ⟨by rw [al hba]; exact g0,g1,g2,g3,g4,fun p hp'=>g5 p ?_⟩
 rcases HC.mp hp' with w | w
 · exact Hv _ w
 · exact r_ _ (Hv _ w)
end
mutual
def imm:Dv→Bool
 | .non=>true
 | .bl _=>true
 | .int _=>true
 | .str _=>true
 | .tup ds=>imms ds
 | .lst _=>false
 | .scr _=>false
 | .exn _=>false
def imms:List Dv→Bool
 | []=>true
 | d :: ds=>imm d && imms ds
end
section
variable {K:ck} {H H':Hp}
mutual
theorem Rep.tups (k:∀ b ys,H b=some (.tup ys)→H' b=some (.tup ys)):∀ (d:Dv) (v:V),imm d=true→Rep K H d v→Rep K H' d v
 | .non,_,_,h=>h
 | .bl _,_,_,h=>h
 | .int _,_,_,h=>h
 | .str _,_,_,h=>h
 | .tup ds,v,i,h=>by
  obtain ⟨a,xs,r,h,q⟩:=h.tupE
  exact ⟨a,xs,r,k _ _ h,Reps.tups k ds xs (by simpa [imm] using i) q⟩
 | .lst _,_,i,_=>by simp [imm] at i
 | .scr _,_,i,_=>by simp [imm] at i
 | .exn _,_,i,_=>by simp [imm] at i
theorem Reps.tups (k:∀ b ys,H b=some (.tup ys)→H' b=some (.tup ys)):∀ (ds:List Dv) (vs:List V),imms ds=true→Reps K H ds vs→Reps K H' ds vs
 | [],_,_,h=>h
 | d :: ds,vs,i,h=>by
  obtain ⟨v,us,r,h,q⟩:∃ v us,vs=v :: us∧Rep K H d v∧Reps K H ds us:=h
  have i':imm d=true∧imms ds=true:=by simpa [imms] using i
  exact ⟨v,us,r,Rep.tups k d v i'.1 h,Reps.tups k ds us i'.2 q⟩
end
end
inductive Fo where
 | nx (ρ:Ev) (ds:List Dv)
 | rt (d:Dv)
abbrev iG:=Ev→List Dv→Option Fo
def OutW (X:Cx) (i:Nat) (a:Addr) (H:Hp) (o:Option Fo) (D:pH):Prop:=match o with
 | none=>False
 | some (.rt d)=>∀ v H',Same H H'→Rep X.K H' d v→D.rt v H'
 | some (.nx ρ ds)=>∀ σ H' xs,Same H H'→H' a=none→σ[i]?=some (some (.ref a))→Envs X.K H' σ ρ→Reps X.K H' ds xs→D.nx σ (upd H' a (.lst xs))
theorem OutW.mono {X:Cx} {i:Nat} {a:Addr} {H H':Hp} {D:pH} (e:Same H H'):∀ {o:Option Fo},OutW X i a H o D→OutW X i a H' o D
 | none,h=>h
 | some (.rt _),h=>fun v H1 e1 r=>h v H1 (e.trans e1) r
 | some (.nx _ _),h=>fun σ H1 xs e1=>h σ H1 xs (e.trans e1)
def tO (X:Cx) (i:Nat) (f:iG):TS:=fun D σ Hf=>∃ H a xs ρ ds,Hf=upd H a (.lst xs)∧H a=none∧σ[i]?=some (some (.ref a))∧Envs X.K H σ ρ∧Reps X.K H ds xs∧OutW X i a H (f ρ ds) D
structure FO1 (X:Cx) (i:Nat) (st:Stmt) (f:iG):Prop where
 h:PS X st (tO X i f)
structure FOs (X:Cx) (i:Nat) (st:List Stmt) (f:iG):Prop where
 h:PSs X st (tO X i f)
def zh {α:Type} (o:Option (Rs α)) (k:α→Option Fo):Option Fo:=match o with
 | some (.ok a)=>k a
 | _=>none
def Du:iG:=fun ρ ds=>some (.nx ρ ds)
def eE (f g:iG):iG:=fun ρ ds=>match f ρ ds with
 | some (.nx ρ' ds')=>g ρ' ds'
 | o=>o
def fq (j:Nat) (f:FnE):iG:=fun ρ ds=>zh (f ρ) fun d=>some (.nx (ρ.set j (some d)) ds)
def xJ (i:Nat) (c:FnB) (f g:iG):iG:=fun ρ ds=>zh (c (ρ.set i (some (.lst ds)))) fun k=>if k then f ρ ds else g ρ ds
def zi (i:Nat) (f:FnE):iG:=fun ρ ds=>zh (f (ρ.set i (some (.lst ds)))) fun d=>some (.rt d)
def zj (f:FnE):iG:=fun ρ ds=>if ds.length < 100000 then zh (f ρ) fun d=>some (.nx ρ (ds ++ [d])) else none
section
variable {X:Cx} {i:Nat} {st:Stmt} {sts:List Stmt} {f g:iG} {fe:FnE} {gb:FnB} {e c:Expr} {pos:Pos}
theorem qL {H Hf:Hp} {a:Addr} {xs:List V} (ha:H a=none) (e:Same (upd H a (.lst xs)) Hf):∃ H',Hf=upd H' a (.lst xs)∧H' a=none∧Same H H':=by
 refine ⟨fun b=>if b=a then none else Hf b,?_,by simp,fun b u q=>?_⟩
 · funext b
   by_cases hb:b=a
   · subst hb
     rw [ak]
     exact e b _ ak
   · rw [al hb]
     simp [hb]
 · have hb:b≠a:=am q ha
   simp only [hb,if_false]
   exact e b u (by rw [al hb]; exact q)
theorem dB {H:Hp} {a:Addr} {xs:List V} (ha:H a=none):Same H (upd H a (.lst xs)):=aq ha _
theorem gZ {H:Hp} {a:Addr} {xs:List V} {σ:L2.St} {ρ:Ev} {ds:List Dv} (ha:H a=none) (hi:σ[i]?=some (some (.ref a))) (E:Envs X.K H σ ρ) (r:Reps X.K H ds xs):Envs X.K (upd H a (.lst xs)) σ (ρ.set i (some (.lst ds))):=by
 have E':=E.mono (dB (xs:=xs) ha)
 refine ⟨by rw [HE]; exact E'.len,fun j d hj=>?_⟩
 by_cases hij:i=j
 · subst hij
   by_cases hl:i < ρ.length
   · rw [B_ hl] at hj
     cases hj
     exact ⟨.ref a,hi,a,xs,rfl,ak,Reps.mono (dB ha) _ _ r⟩
   · rw [Jf (by rw [HE]; omega)] at hj
     cases hj
 · rw [s_ hij] at hj
   exact E'.at' j d hj
theorem xK:FOs X i [] Du:=⟨fun pins s σ Hf D I ⟨H,a,xs,ρ,ds,e1,ha,hi,E,r,o⟩=>by
 subst e1
 exact lD pins s σ _ D I (o σ H xs (.refl H) ha hi E r)⟩
theorem uL (h1:FO1 X i st f) (h2:FOs X i sts g):FOs X i (st :: sts) (eE f g):=⟨fun pins s σ Hf D I ⟨H,a,xs,ρ,ds,e1,ha,hi,E,r,o⟩=>by
 refine c6 h1.h h2.h pins s σ Hf D I ⟨H,a,xs,ρ,ds,e1,ha,hi,E,r,?_⟩
 unfold eE at o
 match hf:f ρ ds with
 | none=>rw [hf] at o; exact o.elim
 | some (.rt d)=>rw [hf] at o; exact o
 | some (.nx ρ' ds')=>rw [hf] at o; exact fun σ' H' xs' e' ha' hi' E' r'=>⟨H',a,xs',ρ',ds',rfl,ha',hi',E',r',OutW.mono e' o⟩⟩
theorem xL (h1:FO1 X i st f):FOs X i [st] f:=⟨gJ h1.h⟩
theorem Bg (hex:X.ex=[]) (j:Nat) (hij:i≠j) {x:Str} {pos':Pos} (hN:X.N.Nodup) (hi:X.N[j]?=some x) (hx:Loc X.env.scope x) (he:FE X e fe) (hs:HR e (some (.Name x pos')) pos.line X.env=pure false:=by kernel_rfl) (hf:X.fn x=true∨X.env.scope.names.lookup x=some .local:=by first | exact .inl rfl | exact .inr rfl | assumption) :
 FO1 X i (.Assign [.Name x pos'] e pos) (fq j fe):=⟨fun pins s σ Hf D I ⟨H,a,xs,ρ,ds,e1,ha,hia,E,r,o⟩=>by
 refine gL hN hi hx (xG hex he.h) hs hf pins s σ Hf D I ⟨H,a,xs,e1,ha,ρ,E,?_⟩
 unfold fq at o
 match hfe:fe ρ with
 | none=>rw [hfe] at o; exact o.elim
 | some (.exc _)=>rw [hfe] at o; exact o.elim
 | some (.ok d) =>
  rw [hfe] at o
  exact fun v H' e' rd ha'=>o _ H' xs e' ha' (by rw [s_ (IG hij)]; exact hia) ((E.mono e').set rd) (Reps.mono e' _ _ r)⟩
theorem Bh {as bs:List Stmt} (hc:FT X c gb) (ha:FOs X i as f) (hb:FOs X i bs g):FO1 X i (.If c as bs pos) (xJ i gb f g):=⟨fun pins s σ Hf D I ⟨H,a,xs,ρ,ds,e1,ha',hia,E,r,o⟩=>by
 subst e1
 refine wC hc.h ha.h hb.h pins s σ _ D I ⟨_,gZ ha' hia E r,?_⟩
 unfold xJ at o
 match hg:gb (ρ.set i (some (.lst ds))) with
 | none=>rw [hg] at o; exact o.elim
 | some (.exc _)=>rw [hg] at o; exact o.elim
 | some (.ok true) =>
  rw [hg] at o
  intro H2 e2
  obtain ⟨H',q1,q2,q3⟩:=qL ha' e2
  exact ua ⟨H',a,xs,ρ,ds,q1,q2,hia,E.mono q3,Reps.mono q3 _ _ r,OutW.mono q3 o⟩
 | some (.ok false) =>
  rw [hg] at o
  intro H2 e2
  obtain ⟨H',q1,q2,q3⟩:=qL ha' e2
  exact tZ ⟨H',a,xs,ρ,ds,q1,q2,hia,E.mono q3,Reps.mono q3 _ _ r,OutW.mono q3 o⟩⟩
theorem Bi (he:FE X e fe):FO1 X i (.Return (some e) pos) (zi i fe):=⟨fun pins s σ Hf D I ⟨H,a,xs,ρ,ds,e1,ha',hia,E,r,o⟩=>by
 subst e1
 refine vJ he.h pins s σ _ D I ⟨_,gZ ha' hia E r,?_⟩
 unfold zi at o
 match hg:fe (ρ.set i (some (.lst ds))) with
 | none=>rw [hg] at o; exact o.elim
 | some (.exc _)=>rw [hg] at o; exact o.elim
 | some (.ok d)=>rw [hg] at o; exact fun v H2 e2 rd=>o v H2 ((dB ha').trans e2) rd⟩
theorem Bj (hex:X.ex=[]) {x:Str} {apos cpos:Pos} (hx:PE X (.Name x apos) (tL i)) (he:FE X e fe)
 (hbase:IU (.Name x apos) "append" X.env (eval (.Name x apos) X.env)=eval (.Name x apos) X.env:=by kernel_rfl)
 (hfew:((Ho cpos (f_ [e] X.env)).all (fun x=>!x.1) && (Jn cpos (Io [] X.env)).all (fun x=>x.1.isSome)
   && decide ([e].length + ([]:List Jc).length + (if ([]:List Jc).isEmpty then 0 else 1) < 30))=true:=by kernel_rfl)
 {ap:Pos} (hline:(ap.endLine == cpos.line)=true:=by kernel_rfl) (hs:f_ [e] X.env=(false,eval e X.env) :: f_ [] X.env:=by kernel_rfl) (hplain:(Ho cpos (f_ [] X.env)).any (·.1)=false:=by kernel_rfl)
 (hsw:HR (.Call (.Attribute (.Name x apos) "append" ap) [e] [] cpos) none pos.line X.env=pure false:=by kernel_rfl) :
 FO1 X i (.Expr (.Call (.Attribute (.Name x apos) "append" ap) [e] [] cpos) pos) (zj fe):=⟨fun pins s σ Hf D I ⟨H,a,xs,ρ,ds,e1,ha',hia,E,r,o⟩=>by
 refine jl (oN Jm Kx MP kh hx (xH hex (gU he iL hs).h) hbase hfew hline hs hplain) hsw pins s σ Hf D I ?_
 unfold zj at o
 split at o
 · rename_i hl
   match hfe:fe ρ with
   | none=>rw [hfe] at o; exact o.elim
   | some (.exc _)=>rw [hfe] at o; exact o.elim
   | some (.ok d) =>
    rw [hfe] at o
    refine ⟨.ref a,hia,.inl ⟨rfl,xs,SqL.of (by rw [e1]; exact ak)⟩,H,a,xs,e1,ha',ρ,E,?_⟩
    show OutA X H (aa fe ah ρ) _
    rw [ae hfe ar]
    intro vs H' e' rs ha2
    obtain ⟨v,rfl,rv⟩:=bD rs
    have hz:xs.length < sizeLine:=by
     have:=r.length
     have h2:=ba (n:=xs.length + 1) (by omega)
     omega
    refine ⟨a,xs,v,rfl,rfl,ak,hz,?_⟩
    rw [wy]
    exact o σ H' (xs ++ [v]) e' ha2 hia (E.mono e') ((Reps.mono e' _ _ r).append ⟨v,[],rfl,rv,rfl⟩)
 · exact o.elim⟩
end
def zk (i:Nat) (g:FnA) (f:iG):FnS:=fun ρ=>cB (g ρ) fun ds=>if ds.length≤100000 then (match f (ρ.set i none) ds with
 | some (.nx ρ' ds')=>some (.nx (ρ'.set i (some (.lst ds'))))
 | some (.rt d)=>some (.rt d)
 | none=>none) else none
section
variable {X:Cx} {i:Nat} {sts:List Stmt} {f:iG} {g:FnA} {es:List Expr} {pos lp:Pos}
theorem xM {x:Str} {pos':Pos} (hN:X.N.Nodup) (hi:X.N[i]?=some x) (hx:Loc X.env.scope x) (hg:FA X es g) (hr:FOs X i sts f) (hs:HR (.List es lp) (some (.Name x pos')) pos.line X.env=pure false:=by kernel_rfl)
 (hf:X.fn x=true∨X.env.scope.names.lookup x=some .local:=by first | exact .inl rfl | exact .inr rfl | assumption):FSs X (.Assign [.Name x pos'] (.List es lp) pos :: sts) (zk i g f):=⟨fun pins s σ H D I ⟨ρ,E,o⟩=>by
 refine c6 (gL (i:=i) hN hi hx (p8 hg.h) hs hf) hr.h pins s σ H D I ⟨ρ,E,?_⟩
 unfold zk at o
 match hgr:g ρ with
 | none=>rw [hgr] at o; exact o.elim
 | some (.exc _)=>rw [hgr] at o; exact o
 | some (.ok ds) =>
  rw [hgr] at o
  intro vs H1 e1 rs
  have o2:OutS X H (if ds.length≤100000 then (match f (ρ.set i none) ds with
   | some (.nx ρ' ds')=>some (.nx (ρ'.set i (some (.lst ds'))))
   | some (.rt d)=>some (.rt d)
   | none=>none) else none) D:=o
  by_cases hl:ds.length≤100000
  · rw [if_pos hl] at o2
    refine ⟨by rw [rs.length]; exact ba hl,fun p hp=>?_⟩
    have hil:i < σ.length:=by rw [I.len]; exact (v_.mp hi).1
    refine ⟨H1,p,vs,ρ.set i none,ds,rfl,hp,B_ hil,?_,rs,?_⟩
    · have E1:=(E.mono e1).fgt1 i
      refine ⟨by rw [HE]; exact E1.len,fun j d hj=>?_⟩
      by_cases hij:i=j
      · subst hij
        by_cases hl2:i < ρ.length
        · rw [B_ hl2] at hj; cases hj
        · rw [Jf (by rw [HE]; omega)] at hj; cases hj
      · obtain ⟨v,q1,q2⟩:=E1.at' j d hj
        exact ⟨v,by rw [s_ hij]; exact q1,q2⟩
    · match hfr:f (ρ.set i none) ds with
      | none=>rw [hfr] at o2; exact o2.elim
      | some (.rt d)=>rw [hfr] at o2; exact fun v H' e' r'=>o2 v H' (e1.trans e') r'
      | some (.nx ρ' ds') =>
       rw [hfr] at o2
       exact fun σ' H' xs' e' ha' hi' E' r'=>o2 σ' _ ((e1.trans e').trans (dB ha')) (gZ ha' hi' E' r')
  · rw [if_neg hl] at o2
    exact o2.elim⟩
end
def kv (j:Nat) (js:List Nat) (body:iG):List Dv→Ev→List Dv→Option Fo
 | [],ρ,xs=>some (.nx (fgt js ρ) xs)
 | d :: ds,ρ,xs=>match body ((fgt js ρ).set j (some d)) xs with
  | some (.nx ρ' xs')=>kv j js body ds ρ' xs'
  | o=>o
def xN (j:Nat) (js:List Nat) (src:FnA) (body:iG):iG:=fun ρ xs=>zh (src ρ) fun ds=>if imms ds=true then kv j js body ds ρ xs else none
theorem fu:∀ {ds:List Dv} {n:Nat} {d:Dv},imms ds=true→ds[n]?=some d→imm d=true
 | [],_,_,_,h=>by simp at h
 | e :: ds,0,d,i,h=>by
  have i':imm e=true∧imms ds=true:=by simpa [imms] using i
  cases (show some e=some d from h)
  exact i'.1
 | e :: ds,n + 1,d,i,h=>by
  have i':imm e=true∧imms ds=true:=by simpa [imms] using i
  exact fu i'.2 (show ds[n]?=some d from h)
theorem uM {K:ck} {H:Hp} {a:Addr} {xs:List V} {d:Dv} {v:V} (i:imm d=true) (r:Rep K (upd H a (.lst xs)) d v):Rep K H d v :=
 Rep.tups (fun b ys q=>by
  by_cases hb:b=a
  · rw [hb,ak] at q; cases q
  · rw [al hb] at q; exact q) d v i r
theorem Bk {X:Cx} {i:Nat} {tg iter:Expr} {body:List Stmt} {pos:Pos} {src:FnA} {fb:iG} (hex:X.ex=[]) (j:Nat) (js:List Nat) (hij:i≠j) (hp:Li (p_ X.prog X.w) X.A X.env X.xe) (hc:X.calm=true) (hi:FI X tg iter src) (hg:PG X tg (gK j)) (hb:FOs X i body fb)
 (hs:∀ x,Hr iter X.env x=pure x:=by intro _; kernel_rfl):FO1 X i (.For tg iter body [] pos) (xN j js src fb):=⟨fun pins s σ Hf D I ⟨H,a,xs,ρ,ds,e1,ha,hia,E,r,o⟩=>by
 refine pU hp hc (xI hex hi.h) hg hb.h hs pins s σ Hf D I ⟨H,a,xs,e1,ha,ρ,E,?_⟩
 unfold xN at o
 match hf:src ρ with
 | none=>rw [hf] at o; exact o.elim
 | some (.exc _)=>rw [hf] at o; exact o.elim
 | some (.ok us) =>
  rw [hf] at o
  have o0:OutW X i a H (if imms us=true then kv j js fb us ρ ds else none) D:=o
  by_cases him:imms us=true
  · rw [if_pos him] at o0
    intro J H1 e1 wk ha1
    have o1:=OutW.mono e1 o0
    refine ⟨fun n m σ' Hf'=>m=us.length - n∧n≤us.length∧∃ H' xs' ρ' ds',Hf'=upd H' a (.lst xs')∧H' a=none∧Same H1 H'∧σ'[i]?=some (some (.ref a))∧Envs X.K H' σ' ρ'∧Reps X.K H' ds' xs'∧OutW X i a H' (kv j js fb (us.drop n) ρ' ds') D,
     ⟨us.length,by simp,Hq _,H1,xs,ρ,ds,rfl,ha1,.refl H1,hia,E.mono e1,Reps.mono e1 _ _ r,by simpa using o1⟩,?_⟩
    rintro n m σ' Hf' ⟨rfl,hn,H',xs',ρ',ds',rfl,ha',e2,hia',E',r',o'⟩
    have e2f:Same H1 (upd H' a (.lst xs')):=e2.trans (dB ha')
    by_cases hlt:n < us.length
    · refine .inr ⟨wk.go n _ e2f hlt,fun σ2 Hf2=>∃ H2 xs2 ρ2 ds2,Hf2=upd H2 a (.lst xs2)∧H2 a=none∧Same H1 H2∧σ2[i]?=some (some (.ref a))∧Envs X.K H2 σ2 ρ2∧Reps X.K H2 ds2 xs2∧OutW X i a H2 (kv j js fb (us.drop (n + 1)) ρ2 ds2) D,
       fun σ2 Hf2 q=>⟨us.length - (n + 1),by omega,rfl,hlt,q⟩,fun x H2 y=>?_⟩
      obtain ⟨rfl,d,hd,rd⟩:=wk.yld n _ x H2 e2f hlt y
      have rd':=uM (fu him hd) rd
      rw [fg hd] at o'
      show tO X i fb _ _ _
      refine ⟨H',a,xs',(fgt js ρ').set j (some d),ds',rfl,ha',by rw [s_ (IG hij)]; exact hia',(Envs.fgt js E').set rd',r',?_⟩
      unfold kv at o'
      match hb':fb ((fgt js ρ').set j (some d)) ds' with
      | none=>rw [hb'] at o'; exact o'
      | some (.rt r)=>rw [hb'] at o'; exact o'
      | some (.nx ρ2 ds2)=>rw [hb'] at o'; exact fun σ2 H3 xs3 e3 h3 hi3 E3 r3=>⟨H3,xs3,ρ2,ds2,rfl,h3,e2.trans e3,hi3,E3,r3,OutW.mono e3 o'⟩
    · have hn':n=us.length:=by omega
      subst hn'
      rw [LN] at o'
      exact .inl ⟨wk.stop _ e2f,o' σ' H' xs' (.refl H') ha' hia' (Envs.fgt js E') r'⟩
  · rw [if_neg him] at o0
    exact o0.elim⟩
end FD
namespace FD
open PySem PySem.Spec PyProof.Rows L2 PySem.W
def eG:Dv→Bool
 | .bl _=>true
 | .int _=>true
 | _=>false
theorem xO (K:ck) (d:Dv):J_ K (.type (tyD d)) (.type "int")=some (eG d):=by cases d <;> kernel_rfl
theorem Bl:Iq (a_ "int")=some (.type "int"):=by kernel_rfl
def Dw:List Dv→Option (Rs Dv)
 | [.int i,.int j]=>some (.ok (.int (if j > i then j else i)))
 | _=>none
section
variable {X:Cx} {p pos:Pos} {e:Expr} {es:List Expr} {ga:FnA}
theorem Bm (hc:X.calm=true) (hg:Gl X "max") (hm:X.mg "max"=none) (ha:FA X (e :: es) ga) (he:f_ (e :: es) X.env=(false,eval e X.env) :: f_ es X.env:=by kernel_rfl) (hpl:(Ho pos (f_ es X.env)).any (·.1)=false:=by kernel_rfl):FE X (.Call (.Name "max" p) (e :: es) [] pos) (fB1 Dw ga) :=
 bO (dM (pY hc) hg hm PyProof.Rows.boot_max ha.h (by decide) (by decide) he hpl) fun σ H Q ρ E o=>⟨ρ,E,OutA.bind o fun ds vs H1 e1 rs o1=>by
  unfold Dw at o1
  split at o1
  · rename_i i j
    obtain ⟨v,v2,rfl,r,r2⟩:=Aw rs
    cases (show v=.int i from r)
    cases (show v2=.int j from r2)
    exact ⟨i,j,rfl,o1 _ H1 (.refl H1) rfl⟩
  · exact o1.elim⟩
end
def leX:Dv→Dv→Option (Rs Dv)
 | .int i,.int j=>some (.ok (.bl (decide (i≤j))))
 | .str x,.str y=>some (.ok (.bl (!decide (y.cps.toList < x.cps.toList))))
 | _,_=>none
def Gj:R2:=fun x y H Q=>rI0 (fun i j=>.bl (decide (i≤j))) x y H Q∨∃ i j,x=.str i∧y=.str j∧Q (.bl (!decide (j.cps.toList < i.cps.toList))) H
section
variable {X:Cx}
theorem qM:OpR X (Hu .LtE) (fun x y H Q=>∃ i j,x=.str i∧y=.str j∧Q (.bl (!decide (j.cps.toList < i.cps.toList))) H):=by
 intro pins s σ H x y v u Q I rx ry h
 obtain ⟨i,j,rfl,rfl,q⟩:=h
 obtain ⟨t,rfl⟩:=rx
 obtain ⟨t',rfl⟩:=ry
 exact PySem.P.le_str ⟨.bl _,H,I,rfl,q⟩
theorem EJ:OpR X (Hu .LtE) Gj:=op_le.or qM
theorem EK:GOp X Gj leX:=by
 intro dx dy x y H Q rx ry o
 cases dx <;> cases dy <;> try exact (show False from o).elim
 · rename_i i j
   exact .inl ⟨i,j,rx,ry,o _ H (.refl H) rfl⟩
 · rename_i i j
   exact .inr ⟨i,j,rx,ry,o _ H (.refl H) rfl⟩
end
def EL (K:ck) (S:List Nat) (Cs:List Addr) (CJ:Addr):Bool:=excIn K CJ bmV "ValueError.__new__" && S.all fun c=>excIn K (Cs.getD c 0) bmV "ValueError.__new__" && xiB K (Cs.getD c 0) && mroIn K (Cs.getD c 0) (.ref CJ) == some true && mroIn K (Cs.getD c 0) (.ref (Cs.getD c 0)) == some true &&
 kitOne K (.ref (Cs.getD c 0)) (.type "ValueError") == some true && S.all fun d=>kitOne K (.ref (Cs.getD c 0)) (.ref (Cs.getD d 0)) == some (c == d)
structure XAllS (K:ck) (S:List Nat) (cls:Nat→Addr) (CJ:Addr):Prop where
 at_:∀ c∈S,nsIn K C_ (xnm c)=some (some (.ref (cls c)))∧excIn K (cls c) bmV "ValueError.__new__"=true∧XI K (cls c)∧mroIn K (cls c) (.ref CJ)=some true∧mroIn K (cls c) (.ref (cls c))=some true∧kitOne K (.ref (cls c)) (.type "ValueError")=some true∧∀ d∈S,kitOne K (.ref (cls c)) (.ref (cls d))=some (c == d)
 exJ:excIn K CJ bmV "ValueError.__new__"=true
theorem uN {K:ck} {S:List Nat} {Cs:List Addr} {CJ:Addr} (hn:∀ c∈S,nsIn K C_ (xnm c)=some (some (.ref (Cs.getD c 0)))) (h:EL K S Cs CJ=true):XAllS K S (fun c=>Cs.getD c 0) CJ:=by
 unfold EL at h
 rw [j_] at h
 refine ⟨fun c hc=>?_,h.1⟩
 have h1:=HV.mp h.2 c hc
 simp only [j_,beq_iff_eq] at h1
 exact ⟨hn c hc,h1.1.1.1.1.1,ED h1.1.1.1.1.2,h1.1.1.1.2,h1.1.1.2,h1.1.2,fun d hd=>by
  have h2:=HV.mp h1.2 d hd
  simpa using h2⟩
section
variable {K:ck} {S:List Nat} {cls:Nat→Addr} {CJ:Addr} (x:XAllS K S cls CJ)
include x
theorem XAllS.xc (c:Nat) (h:c∈S):XC K c (cls c):=⟨(x.at_ c h).1,(x.at_ c h).2.1⟩
theorem XAllS.same {c:Nat} {C:Addr} (h:c∈S) (q:nsIn K C_ (xnm c)=some (some (.ref C))):C=cls c:=by
 have z:=(x.at_ c h).1
 rw [q] at z
 cases z
 rfl
theorem XAllS.xtO (d:Nat) (hd:d∈S):XT K (fun c=>if S.contains c then some (c == d) else none) (.ref (cls d)):=fun c b hb C q=>by
 dsimp only at hb
 split at hb
 · rename_i h
   have h':c∈S:=by simpa using h
   cases hb
   rw [x.same h' q]
   exact ⟨(x.at_ c h').2.2.1,(x.at_ c h').2.2.2.2.2.2 d hd⟩
 · cases hb
theorem XAllS.xtV:XT K (fun c=>if S.contains c then some true else none) (.type "ValueError"):=fun c b hb C q=>by
 dsimp only at hb
 split at hb
 · rename_i h
   have h':c∈S:=by simpa using h
   cases hb
   rw [x.same h' q]
   exact ⟨(x.at_ c h').2.2.1,(x.at_ c h').2.2.2.2.2.1⟩
 · cases hb
end
section
variable {X:Cx} {ex hx:Expr} {f g:FnE} {J:Str} {CJ:Addr} {np rp rp2 hpos pos:Pos}
end
end FD
namespace ST
open PySem PySem.SetTable
def stp (m i:Nat):Nat:=(i * 5 + 1) % (m + 1)
def it (m:Nat):Nat→Nat→Nat
 | 0,i=>i
 | k + 1,i=>it m k (stp m i)
def uO (m:Nat):Bool:=(h_ (m + 1)).all fun i=>(h_ (m + 1)).all fun j=>(h_ (m + 1)).any fun k=>it m k i == j
theorem GN:uO 7=true:=by decide +kernel
theorem EM:uO 31=true:=by decide +kernel
theorem Bn {m:Nat} (h:uO m=true) {i j:Nat} (hi:i≤m) (hj:j≤m):∃ k,k≤m∧it m k i=j:=by
 unfold uO at h
 have h1:=HV.mp h i (IF.mpr (by omega))
 have h2:=HV.mp h1 j (IF.mpr (by omega))
 obtain ⟨k,hk,e⟩:=List.any_eq_true.mp h2
 exact ⟨k,by have:=IF.mp hk; omega,by simpa using e⟩
def lp (m:Nat):Nat→Nat×Nat→Nat×Nat
 | 0,x=>x
 | r + 1,x=>lp m r (leap m x.1 x.2)
theorem qN (m:Nat):∀ (a b:Nat) (x:Nat×Nat),lp m (a + b) x=lp m b (lp m a x)
 | 0,b,x=>by rw [Jr]; rfl
 | a + 1,b,x=>by
  rw [Nat.succ_add]
  show lp m (a + b) (leap m x.1 x.2)=lp m b (lp m a (leap m x.1 x.2))
  exact qN m a b _
theorem xP (m:Nat):∀ (r:Nat) (x:Nat×Nat),x.1≤m→(lp m r x).1≤m
 | 0,x,h=>h
 | r + 1,x,h=>xP m r _ (by
  show (x.1 * 5 + 1 + x.2 / 32) % (m + 1)≤m
  exact JL (Le _ (Ly m)))
theorem Bo (m:Nat):∀ (r:Nat) (x:Nat×Nat),(lp m r x).2=x.2 / 32 ^ r
 | 0,x=>by simp [lp]
 | r + 1,x=>by
  show (lp m r (leap m x.1 x.2)).2=_
  rw [Bo m r]
  show x.2 / 32 / 32 ^ r=_
  rw [Nat.div_div_eq_div_mul,Nat.pow_succ,OJ]
theorem qO (m:Nat):∀ (r:Nat) (i:Nat),(lp m r (i,0)).1=it m r i
 | 0,i=>rfl
 | r + 1,i=>by
  show (lp m r (leap m i 0)).1=it m r (stp m i)
  have e:leap m i 0=(stp m i,0):=by unfold leap stp; simp
  rw [e]
  exact qO m r _
theorem qP {m:Nat} (c:uO m=true) {i pt j:Nat} (hi:i≤m) (hp:pt < 2 ^ 64) (hj:j≤m):∃ r,r≤13 + m∧(lp m r (i,pt)).1=j:=by
 have h0:(lp m 13 (i,pt)).2=0:=by
  rw [Bo]
  exact Nat.div_eq_of_lt (by
   show pt < 32 ^ 13; have:(32:Nat) ^ 13=2 ^ 65:=by decide
   omega)
 obtain ⟨k,hk,e⟩:=Bn c (xP m 13 (i,pt) hi) hj
 refine ⟨13 + k,by omega,?_⟩
 rw [qN]
 have e2:lp m 13 (i,pt)=((lp m 13 (i,pt)).1,0):=by rw [← h0]
 rw [e2,qO]
 exact e
def advN (t:SetTable):Nat→Probe→Probe
 | 0,p=>p
 | n + 1,p=>advN t n (t.advance p)
theorem fw (t:SetTable):∀ (a b:Nat) (p:Probe),advN t (a + b) p=advN t b (advN t a p)
 | 0,b,p=>by rw [Jr]; rfl
 | a + 1,b,p=>by
  rw [Nat.succ_add]
  exact fw t a b _
structure Vp (t:SetTable) (p:Probe):Prop where
 i:p.i≤t.mask
 pt:p.perturb < 2 ^ 64
 more:p.more≤9
 dm:p.dummy=none
theorem kw (m i:Nat):Pw m i - i≤9:=by unfold Pw; split <;> omega
def kx (t:SetTable) (p:Probe):Probe:={ p with j:=(leap t.mask p.i p.perturb).1,more:=Pw t.mask (leap t.mask p.i p.perturb).1 - (leap t.mask p.i p.perturb).1,i:=(leap t.mask p.i p.perturb).1,perturb:=(leap t.mask p.i p.perturb).2 }
theorem nr (t:SetTable) (p:Probe) (h:p.more=0):t.advance p=kx t p:=by
 unfold OU kx
 rw [if_neg (by omega)]
theorem qQ (t:SetTable) (p:Probe) (h:0 < p.more):t.advance p={ p with j:=p.j + 1,more:=p.more - 1 }:=by
 unfold OU
 rw [if_pos h]
theorem lO (t:SetTable):∀ (k:Nat) (p:Probe),p.more=k→advN t (k + 1) p=kx t p
 | 0,p,h=>nr t p h
 | k + 1,p,h=>by
  show advN t (k + 1) (t.advance p)=_
  rw [qQ t p (by omega),lO t k _ (by show p.more - 1=k; omega)]
  rfl
theorem qR (m i pt:Nat) (h:pt < 2 ^ 64):(leap m i pt).2 < 2 ^ 64:=Nat.lt_of_le_of_lt (Nat.div_le_self _ _) h
theorem Vp.leap {t:SetTable} {p:Probe} (v:Vp t p):Vp t (kx t p):=⟨by
 show (p.i * 5 + 1 + p.perturb / 32) % (t.mask + 1)≤t.mask
 exact JL (Le _ (Ly t.mask)),(show (N8 t.mask p.i p.perturb).2 < 2 ^ 64 from qR _ _ _ v.pt),(show Pw t.mask (N8 t.mask p.i p.perturb).1 - (N8 t.mask p.i p.perturb).1≤9 from kw _ _),v.dm⟩
theorem Vp.adv {t:SetTable} {p:Probe} (v:Vp t p):Vp t (t.advance p):=by
 by_cases h:0 < p.more
 · rw [qQ t p h]; exact ⟨v.i,v.pt,by show p.more - 1≤9; have:=v.more; omega,v.dm⟩
 · rw [nr t p (by omega)]; exact v.leap
theorem Vp.advN {t:SetTable}:∀ (n:Nat) {p:Probe},Vp t p→Vp t (advN t n p)
 | 0,p,v=>v
 | n + 1,p,v=>Vp.advN n v.adv
theorem nu (t:SetTable):∀ (r:Nat) (p:Probe),Vp t p→∃ n,n≤10 * r∧(advN t n p).i=(lp t.mask r (p.i,p.perturb)).1∧(r≠0→(advN t n p).j=(advN t n p).i)
 | 0,p,v=>⟨0,by omega,rfl,fun h=>absurd rfl h⟩
 | r + 1,p,v=>by
  obtain ⟨n,h1,h2,h3⟩:=nu t r (kx t p) v.leap
  refine ⟨p.more + 1 + n,by have:=v.more; omega,?_,fun _=>?_⟩
  · rw [fw,lO t p.more p rfl,h2]; rfl
  · rw [fw,lO t p.more p rfl]
    by_cases hr:r=0
    · subst hr
      have hn:n=0:=by omega
      subst hn
      rfl
    · exact h3 hr
structure Tb (t:SetTable) (n:Nat):Prop where
 size:t.place.size=n
 dm:t.dummies=#[]
 cyc:uO t.mask=true
 room:n≤t.mask
theorem qS (j:Nat):has #[] j=false:=by unfold has; simp
theorem iS {t:SetTable} {n:Nat} (T:Tb t n) (j:Nat):t.slot j=.empty∨∃ i,t.slot j=.live i∧t.place[i]?=some j:=by
 unfold SetTable.slot
 dsimp only
 split
 · rename_i h
   exact .inr ⟨_,rfl,by simpa using h⟩
 · rw [T.dm,qS]
   exact .inl rfl
theorem qT:∀ (m:Nat) (l:List Nat),l.length≤m→∃ j,j≤m∧j ∉ l
 | 0,l,h=>⟨0,n_ _,by
  have:l=[]:=IQ.mp (by omega)
  simp [this]⟩
 | m + 1,l,h=>by
  by_cases hm:(m + 1)∈l
  · obtain ⟨j,hj,hn⟩:=qT m (l.erase (m + 1)) (by rw [JW hm]; omega)
    refine ⟨j,by omega,fun hl=>hn ?_⟩
    exact (NP (by omega)).mpr hl
  · exact ⟨m + 1,n_ _,hm⟩
theorem uP {t:SetTable} {n:Nat} (T:Tb t n):∃ j,j≤t.mask∧t.slot j=.empty:=by
 obtain ⟨j,hj,hn⟩:=qT t.mask t.place.toList (by simp [T.size,T.room])
 refine ⟨j,hj,?_⟩
 rcases iS T j with h | ⟨i,h,e⟩
 · exact h
 · exact absurd (JO.mpr (Array.mem_of_getElem? e)) hn
theorem EN {t:SetTable} {n:Nat} (T:Tb t n) {p:Probe} (v:Vp t p):∃ N,N < 10 * N7 t.mask∧t.slot (advN t N p).j=.empty:=by
 obtain ⟨j,hj,he⟩:=uP T
 obtain ⟨r,hr,e⟩:=qP T.cyc (xP t.mask 1 (p.i,p.perturb) v.i) (by
  show (leap t.mask p.i p.perturb).2 < 2 ^ 64
  exact qR _ _ _ v.pt) hj (pt:=(lp t.mask 1 (p.i,p.perturb)).2)
 obtain ⟨N,h1,h2,h3⟩:=nu t (1 + r) p v
 refine ⟨N,by unfold N7; omega,?_⟩
 rw [h3 (by omega),h2,qN]
 rw [show lp t.mask 1 (p.i,p.perturb)=((lp t.mask 1 (p.i,p.perturb)).1,(lp t.mask 1 (p.i,p.perturb)).2) from rfl,e]
 exact he
theorem first {P:Nat→Prop} [DecidablePred P]:∀ (b:Nat),(∃ n,n < b∧P n)→∃ n,n < b∧P n∧∀ k,k < n→¬ P k
 | 0,⟨n,h,_⟩=>absurd h (K9 _)
 | b + 1,⟨n,h,hp⟩=>by
  by_cases q:∃ n,n < b∧P n
  · obtain ⟨n,h1,h2,h3⟩:=first b q
    exact ⟨n,by omega,h2,h3⟩
  · have hn:n=b:=by
     have:¬ n < b:=fun z=>q ⟨n,z,hp⟩
     omega
    subst hn
    exact ⟨n,by omega,hp,fun k hk z=>q ⟨k,hk,z⟩⟩
theorem Bp {t:SetTable} {n:Nat} (T:Tb t n) {p:Probe} (v:Vp t p):∃ N,N < 10 * N7 t.mask∧t.slot (advN t N p).j=.empty∧∀ k,k < N→t.slot (advN t k p).j≠.empty :=
 first (P:=fun n=>t.slot (advN t n p).j=.empty) _ (EN T v)
theorem v4 {t:SetTable} {n:Nat} (T:Tb t n) (hashAt:Nat→Int) (h:Int):∀ (N fuel:Nat) (p:Probe),Vp t p→N < fuel→t.slot (advN t N p).j=.empty→(∀ k,k < N→t.slot (advN t k p).j≠.empty) →
 MV t hashAt h fuel p=some (.empty (advN t N p).j none)∨∃ m i,m < N∧t.slot (advN t m p).j=.live i∧t.place[i]?=some (advN t m p).j∧hashAt i=h∧MV t hashAt h fuel p=some (.candidate (advN t m p).j i (advN t (m + 1) p))
 | N,0,p,v,hf,_,_=>absurd hf (K9 _)
 | 0,fuel + 1,p,v,hf,he,_=>by
  refine .inl ?_
  unfold MV
  rw [show t.slot p.j=.empty from he]
  show some (Met.empty p.j p.dummy)=_
  rw [v.dm]
  rfl
 | N + 1,fuel + 1,p,v,hf,he,hn=>by
  rcases iS T p.j with h0 | ⟨i,h1,h2⟩
  · exact absurd h0 (hn 0 (by omega))
  · by_cases hh:hashAt i=h
    · refine .inr ⟨0,i,by omega,h1,h2,hh,?_⟩
      unfold MV
      rw [h1]
      dsimp only
      rw [if_pos (by simpa using hh)]
      rfl
    · have hg:MV t hashAt h (fuel + 1) p=MV t hashAt h fuel (t.advance p):=by
       conv=>lhs; unfold MV
       rw [h1]
       dsimp only
       rw [if_neg (by simpa using hh)]
      rcases v4 T hashAt h N fuel (t.advance p) v.adv (by omega) he (fun k hk=>hn (k + 1) (by omega)) with q | ⟨m,i',q1,q2,q3,q4,q5⟩
      · exact .inl (by rw [hg,q]; rfl)
      · exact .inr ⟨m + 1,i',by omega,q2,q3,q4,by rw [hg,q5]; rfl⟩
theorem qU {t:SetTable} (h:Int):Vp t (t.probeStart h):=⟨by
 show bits h % (t.mask + 1)≤t.mask
 exact JL (Le _ (Ly t.mask)),by
 show bits h < 2 ^ 64
 unfold bits
 have h1:=JG h (show (2 ^ 64:Int)≠0 by decide)
 have h2:=IJ h (show (0:Int) < 2 ^ 64 by decide)
 omega,kw _ _,rfl⟩
theorem kz {m:Nat} {owner:Array (Option Nat)}:∀ (fuel i pt:Nat),i≤m→(∃ r,r < fuel∧(owner.getD (lp m r (i,pt)).1 (some 0)).isNone=true)→∃ j,LQ m owner fuel i pt=some j∧(owner.getD j (some 0)).isNone=true
 | 0,i,pt,_,⟨r,h,_⟩=>absurd h (K9 _)
 | fuel + 1,i,pt,hi,⟨r,h,e⟩=>by
  unfold LQ
  split
  · rename_i k hk
    exact ⟨i + k,rfl,by simpa using List.find?_some hk⟩
  · rename_i hk
    cases r with
    | zero =>
     have hm:0∈h_ (Pw m i + 1 - i):=IF.mpr (by unfold Pw; split <;> omega)
     have:=List.find?_eq_none.mp hk 0 hm
     exact absurd (show (owner.getD (i + 0) (some 0)).isNone=true from e) this
    | succ r =>
     exact kz fuel _ _ (by
      show (i * 5 + 1 + pt / 32) % (m + 1)≤m
      exact JL (Le _ (Ly m))) ⟨r,by omega,e⟩
theorem v6:∀ (l:List (Option Nat)) (j k:Nat),l[j]?=some none→((l.set j (some k)).filterMap id).Perm (k :: l.filterMap id)
 | [],j,k,h=>by simp at h
 | x :: l,0,k,h=>by
  have:x=none:=by simpa using h
  subst this
  simp
 | x :: l,j + 1,k,h=>by
  have ih:=v6 l j k (by simpa using h)
  cases x with
  | none=>simpa using ih
  | some y =>
   show List.Perm (y :: (l.set j (some k)).filterMap id) (k :: y :: l.filterMap id)
   exact (ih.cons y).trans (NR ..)
theorem qV:∀ (l:List (Option Nat)),(l.filterMap id).length < l.length→∃ j,j < l.length∧l[j]?=some none
 | [],h=>by simp at h
 | none :: l,h=>⟨0,by simp,rfl⟩
 | some y :: l,h=>by
  obtain ⟨j,h1,h2⟩:=qV l (by simpa using h)
  exact ⟨j + 1,by simpa using h1,by simpa using h2⟩
def xQ (m:Nat) (acc:Option (Array (Option Nat)×Nat)) (h:Int):Option (Array (Option Nat)×Nat):=do
 let (owner,k) ← acc
 let j ← LQ m owner (N7 m) (bits h % (m + 1)) (bits h)
 pure (owner.setIfInBounds j (some k),k + 1)
theorem xR (h:Int):bits h < 2 ^ 64:=by
 unfold bits
 have h1:=JG h (show (2 ^ 64:Int)≠0 by decide)
 have h2:=IJ h (show (0:Int) < 2 ^ 64 by decide)
 omega
theorem getD_none {owner:Array (Option Nat)} {j:Nat} (h:(owner.getD j (some 0)).isNone=true):j < owner.size∧owner.toList[j]?=some none:=by
 rw [KI] at h
 cases q:owner[j]? with
 | none=>rw [q] at h; simp at h
 | some x =>
  rw [q] at h
  have hx:x=none:=by simpa using h
  subst hx
  refine ⟨(Ja.mp q).1,by rw [LK]; exact q⟩
theorem qW {m:Nat} (c:uO m=true):∀ (hs:List Int) (owner:Array (Option Nat)) (k:Nat),owner.size=m + 1→(owner.toList.filterMap id).Perm (h_ k)→k + hs.length≤m →
 ∃ o2,hs.foldl (xQ m) (some (owner,k))=some (o2,k + hs.length)∧o2.size=m + 1∧(o2.toList.filterMap id).Perm (h_ (k + hs.length))
 | [],owner,k,h1,h2,h3=>⟨owner,rfl,h1,h2⟩
 | h :: hs,owner,k,h1,h2,h3=>by
  have hk:k + (hs.length + 1)≤m:=by simpa using h3
  obtain ⟨j0,a1,a2⟩:=qV owner.toList (by rw [h2.length_eq,KC]; simp only [Ib,h1]; omega)
  have hj0:j0≤m:=by simp only [Ib,h1] at a1; omega
  obtain ⟨r,b1,b2⟩:=qP c (i:=bits h % (m + 1)) (pt:=bits h) (JL (Le _ (Ly m))) (xR h) hj0
  obtain ⟨j,f1,f2⟩:=kz (m:=m) (owner:=owner) (N7 m) (bits h % (m + 1)) (bits h) (JL (Le _ (Ly m))) ⟨r,by unfold N7; omega,by
   rw [b2,KI]
   rw [LK] at a2
   rw [a2]; rfl⟩
  obtain ⟨g1,g2⟩:=getD_none f2
  have e:xQ m (some (owner,k)) h=some (owner.setIfInBounds j (some k),k + 1):=by
   show (LQ m owner (N7 m) (bits h % (m + 1)) (bits h)).bind (fun j=>some (owner.setIfInBounds j (some k),k + 1))=_
   rw [f1]; rfl
  rw [L9,e]
  obtain ⟨o2,c1,c2,c3⟩:=qW c hs (owner.setIfInBounds j (some k)) (k + 1) (by rw [Array.size_setIfInBounds]; exact h1) (by
   rw [Array.toList_setIfInBounds]
   refine (v6 _ _ _ g2).trans ((h2.cons k).trans ?_)
   rw [Np]
   exact (Mw k (h_ k)).symm) (by omega)
  refine ⟨o2,?_,c2,?_⟩
  · rw [c1]; simp only [Il]; congr 2; omega
  · simp only [Il]; rw [show k + (hs.length + 1)=k + 1 + hs.length by omega]; exact c3
theorem lP {m:Nat} (c:uO m=true) (hs:Array Int) (hl:hs.size≤m):∃ o2,layClean m hs=some o2∧o2.size=m + 1∧(o2.toList.filterMap id).Perm (h_ hs.size):=by
 obtain ⟨o2,c1,c2,c3⟩:=qW c hs.toList (Nr (m + 1) none) 0 (by simp) (by simp [List.filterMap_replicate]) (by simpa using hl)
 refine ⟨o2,?_,c2,by simpa using c3⟩
 unfold layClean
 rw [← Array.foldl_toList]
 have e:(On (fun acc h=>do
  let (owner,k) ← acc
  let j ← LQ m owner (N7 m) (bits h % (m + 1)) (bits h)
  pure (owner.setIfInBounds j (some k),k + 1)) (some (Nr (m + 1) none,0)) hs.toList:Option (Array (Option Nat)×Nat))=hs.toList.foldl (xQ m) (some (Nr (m + 1) none,0)):=rfl
 rw [e,c1]
 rfl
theorem nv:∀ (l:List (Option Nat)) (base:Nat),((h_ l.length).filterMap fun j=>(l.getD j none).map (fun x=>(base + j,x))).map (·.2)=l.filterMap id
 | [],base=>rfl
 | x :: l,base=>by
  rw [Il,Kp,K2,Mz]
  have ih:=nv l (base + 1)
  have e:(h_ l.length).filterMap ((fun j=>((x :: l).getD j none).map (fun x=>(base + j,x))) ∘ Nat.succ)=(h_ l.length).filterMap fun j=>(l.getD j none).map (fun x=>(base + 1 + j,x)):=by
   congr 1
   funext j
   show ((x :: l).getD (j + 1) none).map _=_
   simp only [List.getD_cons_succ]
   rw [show base + (j + 1)=base + 1 + j by omega]
  rw [e]
  cases x with
  | none=>simpa using ih
  | some y =>
   simp only [List.getD_cons_zero,JE,y_]
   rw [ih]
   rfl
theorem xS {m finger moves:Nat} {led plain:Bool} (c:uO m=true) (hs:Array Int) (hl:hs.size≤m):∃ t order,laid m finger moves led plain hs=some (t,order)∧t.mask=m∧t.moves=moves∧t.led=led∧t.plain=plain∧Tb t hs.size∧order.toList.Perm (h_ hs.size):=by
 obtain ⟨o2,c1,c2,c3⟩:=lP c hs hl
 have e:=nv o2.toList 0
 have hlen:((h_ (m + 1)).filterMap fun j=>(o2.getD j none).map (j,·))=((h_ o2.toList.length).filterMap fun j=>(o2.toList.getD j none).map (fun x=>(0 + j,x))):=by
  rw [Ib,c2]
  congr 1
  funext j
  rw [Jr,KI,KS,LK]
 refine ⟨_,_,by unfold laid; rw [c1]; rfl,rfl,rfl,rfl,rfl,⟨?_,rfl,c,hl⟩,?_⟩
 · simp only [uk,HF]
   rw [hlen]
   have:=congrArg Pe e
   rw [HF] at this
   rw [this,c3.length_eq,KC]
 · rw [Mb,hlen,e]
   exact c3
theorem fz {α:Type} (xs:Array α) (p:Nat) (x:α) (h:p≤xs.size):(insertAt xs p x).size=xs.size + 1:=by
 unfold insertAt
 simp only [ML,Array.size_push,Array.size_extract]
 omega
theorem ny (xs:Array Nat) (j:Nat):below xs j≤xs.size:=by
 unfold below
 have:∀ (fuel lo hi:Nat),lo≤hi→hi≤xs.size→OD xs j fuel lo hi≤xs.size:=by
  intro fuel
  induction fuel with
  | zero=>intro lo hi h1 h2; unfold OD; omega
  | succ fuel ih =>
   intro lo hi h1 h2
   unfold OD
   split
   · rename_i hlt
     dsimp only
     split
     · exact ih _ _ (by omega) h2
     · exact ih _ _ (by omega) (by omega)
   · omega
 exact this _ _ _ (Hq _) (n_ _)
theorem Bq {t:SetTable} {n:Nat} (T:Tb t n) (h:n + 1≤t.mask) (j:Nat):Tb (t.put j).1 (n + 1)∧(t.put j).2≤n∧(t.put j).1.mask=t.mask∧(t.put j).1.led=t.led∧(t.put j).1.moves=t.moves:=by
 unfold SetTable.put
 refine ⟨⟨?_,?_,T.cyc,h⟩,?_,rfl,rfl,rfl⟩
 · show (insertAt t.place (below t.place j) j).size=n + 1
   rw [fz _ _ _ (ny _ _),T.size]
 · show (if has t.dummies j then eraseAt t.dummies (below t.dummies j) else t.dummies)=#[]
   rw [T.dm,qS]
   rfl
 · show below t.place j≤n
   rw [← T.size]
   exact ny _ _
section
variable {prog:Program} {w:D_} {A:w_} {E:Value→c_→Prop} {s:c_}
abbrev TK (prog:Program) (w:D_) (h:Heap) (k:List Str) (a:Addr):Prop:=IsTupleKey (strKind prog w) h k a
abbrev hsh (prog:Program) (w:D_) (k:List Str):Int:=tupleKeyHash (strKind prog w) k
theorem kA {k:List Str} {vs:List Value} (h:ItemsAre (strKind prog w) k vs):∀ v∈vs,∃ x t,v=.str x t:=by
 induction h with
 | nil=>intro v hv; simp at hv
 | @cons k' v' ks vs h1 _ ih =>
  intro v hv
  rcases on.mp hv with rfl | hv
  · obtain ⟨t,rfl⟩:=NY h1
    exact ⟨_,_,rfl⟩
  · exact ih v hv
theorem qX {k:List Str} {a:Addr} {Q:Bool→c_→Prop} (hk:TK prog w s.heap k a) (h:Q false s):k_ (p_ prog w) A (ofAClassStatement 8 (.ref a)) Q E s:=by
 have hT:=hk.typeIs
 obtain ⟨o,items,n,ho,_,hd,hi⟩:=hk
 unfold ofAClassStatement
 refine b_ (JH hT ?_)
 show k_ _ _ ((if ("tuple" == "tuple")=true then pure true else isSubtype (.type "tuple") (.type "tuple")) >>= _) _ _ s
 rw [if_pos (by decide)]
 refine b_ (d_ ?_)
 simp only [Kv,rl,if_false]
 refine b_ (KL ho hd ?_)
 refine b_ ?_
 show k_ _ _ (PN items _ _) _ _ s
 rw [← Lf]
 refine LM _ (fun rest r s'=>r.1=none∧s'=s∧∀ v∈rest,∃ x t,v=IB x t) _ ?_ ?_ _ _ ⟨rfl,rfl,kA hi⟩
 · rintro v rest r s' ⟨hr,rfl,hall⟩
   obtain ⟨x,t,rfl⟩:=hall v g_
   refine b_ (d_ ?_)
   simp only [rl,if_false]
   exact d_ ⟨rfl,rfl,fun u hu'=>hall u (l_ _ hu')⟩
 · rintro ⟨r1,r2⟩ s' ⟨hr,rfl,_⟩
   simp only at hr
   subst hr
   exact d_ h
theorem Br {k:List Str} {b:Addr} (hk:TK prog w s.heap k b) {l:List Value} (hl:∀ v∈l,∃ k' a,v=.ref a∧TK prog w s.heap k' a) {Q:Bool→c_→Prop} (h:Q false s):k_ (p_ prog w) A (searchCouldBeSeen (.ref b) l) Q E s:=by
 unfold searchCouldBeSeen
 refine b_ ?_
 refine LM _ (fun rest r s'=>r.1=none∧s'=s∧∀ v∈rest,∃ k' a,v=xy a∧TK prog w s.heap k' a) _ ?_ ?_ _ _ ⟨rfl,rfl,hl⟩
 · rintro v rest r s' ⟨hr,rfl,hall⟩
   obtain ⟨k',a,rfl,ha⟩:=hall v g_
   have hrest:∀ v∈rest,∃ k' a,v=xy a∧TK prog w s'.heap k' a:=fun u hu'=>hall u (l_ _ hu')
   dsimp only
   split
   · exact d_ ⟨rfl,rfl,hrest⟩
   · refine b_ (Nt hk ?_)
     simp only [Kv,rl,if_false]
     refine b_ (Nt ha ?_)
     simp only [Kv,rl,if_false]
     refine b_ (qX hk ?_)
     simp only [rl,if_false]
     refine b_ (qX ha ?_)
     simp only [rl,if_false]
     exact d_ ⟨rfl,rfl,hrest⟩
 · rintro ⟨r1,r2⟩ s' ⟨hr,rfl,_⟩
   simp only at hr
   subst hr
   exact d_ h
theorem lQ {k:List Str} {a:Addr} {Q:Bool→c_→Prop} (hk:TK prog w s.heap k a) (h:∀ b,Q b s):k_ (p_ prog w) A (hashByValue 8 (.ref a)) Q E s:=by
 have hT:=hk.typeIs
 obtain ⟨o,items,n,ho,_,hd,hi⟩:=hk
 unfold hashByValue
 refine b_ (wpAny_specialOf hT F.slot_tuple_hash.lookup ?_)
 dsimp only
 refine b_ (KL ho hd ?_)
 refine b_ ?_
 show k_ _ _ (PN items _ _) _ _ s
 rw [← Lf]
 refine LM _ (fun rest r s'=>r.1=none∧s'=s∧∀ v∈rest,∃ x t,v=IB x t) _ ?_ ?_ _ _ ⟨rfl,rfl,kA hi⟩
 · rintro v rest r s' ⟨hr,rfl,hall⟩
   obtain ⟨x,t,rfl⟩:=hall v g_
   refine b_ (d_ ?_)
   simp only [LC,if_true]
   refine d_ ?_
   exact d_ (h _)
 · rintro ⟨r1,r2⟩ s' ⟨hr,rfl,_⟩
   simp only at hr
   subst hr
   exact d_ (h _)
def Ent (prog:Program) (w:D_) (h:Heap) (ks:List (List Str)) (es:List (Int×Value)):Prop:=∀ e∈es,∃ k a,k∈ks∧e.2=.ref a∧TK prog w h k a
theorem jD {t:SetTable} {n:Nat} (T:Tb t n):t.fits n=true:=by
 unfold PC PD
 rw [T.size,T.dm]
 simp [T.room]
theorem qY {S b:Addr} {o:Obj} {es:Array (Int×Value)} {ep:Nat} {t:SetTable} {ks:List (List Str)} {k:List Str} {h:Int} {adding:Bool} {Q:SetFound→c_→Prop} (hu:A.units < cLine)
 (ho:s.heap.get? S=some o) (hd:o.data=.set es ep t) (T:Tb t es.size) (hm:t.mask % 2=1) (hE:Ent prog w s.heap ks es.toList) (hx:TK prog w s.heap k b) (hk:k ∉ ks) :
 ∀ (N fuel:Nat) (st:Option Probe),(∀ p,st=some p→Vp t p)→N < fuel→t.slot (advN t N (st.getD (t.probeStart h))).j=.empty→(∀ m,m < N→t.slot (advN t m (st.getD (t.probeStart h))).j≠.empty)→N < 10 * N7 t.mask →
  (∀ j,Q (.free j false) s)→k_ (p_ prog w) A (MO S (.ref b) h adding fuel st) Q E s:=by
 intro N
 induction N using Nat.strongRecOn with
 | _ N ih =>
  intro fuel st hv hf he hn hN hQ
  cases fuel with
  | zero=>exact absurd hf (K9 _)
  | succ fuel =>
   have hfit:=jD T
   have v:Vp t (st.getD (t.probeStart h)):=by
    cases st with
    | none=>exact qU h
    | some p=>exact hv p rfl
   unfold MO
   refine b_ (HM ho hd hfit ?_)
   dsimp only
   have hgw:t.gaveWay=false:=by unfold SetTable.gaveWay; rw [hm]; rfl
   rw [hgw]
   simp only [rl,if_false]
   unfold SetTable.probe
   rcases v4 T _ h N _ (st.getD (t.probeStart h)) v hN he hn with q | ⟨m,i,hmN,q1,q2,q3,q5⟩
   · rw [q]
     dsimp only
     exact d_ (hQ _)
   · rw [q5]
     dsimp only
     have hi:i < es.size:=by
      have:=(Ja.mp q2).1
      rw [T.size] at this
      exact this
     obtain ⟨k',a,hk',ea,ta⟩:=hE es[i] (JO.mpr (Array.getElem_mem hi))
     have hg:es[i]?=some (es[i].1,.ref a):=by rw [Array.getElem?_eq_getElem hi,← ea]
     have rest:k_ (p_ prog w) A (do
      let some (_,y):=es[i]? | Nz "internal:set-entry"
      let equal ← Pl [y] (eqBool y (.ref b))
      let (es',_,t') ← setState S
      if (adding && equal)=true then return SetFound.there none
      let some same:=t'.sameMemory t.moves t.mask | Nz "set.changed-during-lookup:is-the-new-block-at-the-old-address"
      let still ← match (if same then t'.slot (advN t m (st.getD (t.probeStart h))).j else .empty) with
       | .live i'=>match es'[i']? with
        | some (_,y')=>do pure (if ← isSame y' y then some i' else none)
        | none=>pure none
       | _=>pure none
      match still with
      | none=>rule "set.search.anew"; MO S (.ref b) h adding fuel none
      | some i'=>if equal then return .there (some i') else MO S (.ref b) h adding fuel (some (advN t (m + 1) (st.getD (t.probeStart h))))) Q E s:=by
      rw [hg]
      dsimp only
      refine b_ (HX (wpAny_eqBool_tuple hu ta hx ?_))
      have hne:decide (k'=k)=false:=decide_eq_false fun z=>hk (z ▸ hk')
      rw [hne]
      refine b_ (HM ho hd hfit ?_)
      dsimp only
      rw [NS]
      simp only [rl,if_false]
      have hsm:t.sameMemory t.moves t.mask=some true:=by unfold SetTable.sameMemory; simp
      rw [hsm]
      dsimp only
      rw [if_pos rfl,q1]
      dsimp only
      rw [hg]
      dsimp only
      have hsame:isSame (xy a) (xy a)=pure true:=by
       unfold isSame
       dsimp only
       rw [if_pos (by simp)]
      rw [hsame]
      refine b_ (b_ (d_ (d_ ?_)))
      rw [if_pos rfl]
      refine ih (N - (m + 1)) (by omega) fuel (some (advN t (m + 1) (st.getD (t.probeStart h)))) (fun p hp=>by cases hp; exact Vp.advN (m + 1) v) (by omega) ?_ ?_ (by omega) hQ
      · show t.slot (advN t (N - (m + 1)) (advN t (m + 1) (st.getD (t.probeStart h)))).j=.empty
        rw [← fw,show m + 1 + (N - (m + 1))=N by omega]
        exact he
      · intro x hx'
        show t.slot (advN t x (advN t (m + 1) (st.getD (t.probeStart h)))).j≠.empty
        rw [← fw]
        exact hn _ (by omega)
     by_cases hled:t.led=true
     · rw [hled]
       simp only [Kv,rl,if_false]
       exact rest
     · have hled':t.led=false:=by simpa using hled
       rw [hled']
       simp only [LC,if_true]
       refine b_ (Br hx (fun v hv=>?_) ?_)
       · obtain ⟨e,he',rfl⟩:=Iv.mp hv
         have hem:e∈es.toList:=by
          have:=JO.mp he'
          rw [Array.mem_filter] at this
          exact JO.mpr this.1
         obtain ⟨k2,a2,_,e2,t2⟩:=hE e hem
         exact ⟨k2,a2,e2,t2⟩
       · simp only [rl,if_false]
         exact rest
end
section
variable {prog:Program} {w:D_} {A:w_} {E:Value→c_→Prop} {s:c_}
def SetT (prog:Program) (w:D_) (h:Heap) (S:Addr) (ks:List (List Str)) (n:Nat):Prop :=
 ∃ o es ep t,h.get? S=some o∧o.ExactSet∧o.data=.set es ep t∧es.size=n∧Tb t n∧((t.mask=7∧n≤4)∨(t.mask=31∧n≤18))∧Ent prog w h ks es.toList
theorem TK.keeps {h h':Heap} {k:List Str} {a S:Addr} {o:Obj} {es ep t} (x:TK prog w h k a) (ho:h.get? S=some o) (hd:o.data=.set es ep t) (hs:Ir S h h'):TK prog w h' k a:=by
 obtain ⟨o',items,n,ho',hc,hd',hi⟩:=x
 have hne:a≠S:=by
  rintro rfl
  obtain rfl:o'=o:=HN (ho'.symm.trans ho)
  rw [hd] at hd'; exact nomatch hd'
 exact ⟨o',items,n,(hs.2 a hne).trans ho',hc,hd',hi⟩
theorem Ent.keeps {h h':Heap} {ks:List (List Str)} {l:List (Int×Value)} {S:Addr} {o:Obj} {es ep t} (x:Ent prog w h ks l) (ho:h.get? S=some o) (hd:o.data=.set es ep t) (hs:Ir S h h'):Ent prog w h' ks l:=fun e he=>by
 obtain ⟨k,a,h1,h2,h3⟩:=x e he
 exact ⟨k,a,h1,h2,h3.keeps ho hd hs⟩
theorem kB {h:Heap} {S:Addr} {o:Obj} {es es':Array (Int×Value)} {ep:Nat} {t t':SetTable} (ho:h.get? S=some o) (hd:o.data=.set es ep t):(h.update S (JS es' t')).get? S=some { o with data:=.set es' (ep + 1) t' }:=by
 have:=Je (JS es' t') ho (by rw [MS es' t' hd]; rfl)
 rw [MS es' t' hd] at this; exact this
theorem Ent.insert {h:Heap} {ks:List (List Str)} {es:Array (Int×Value)} {k:List Str} {b:Addr} {p:Nat} {x:Int} (hE:Ent prog w h ks es.toList) (hb:TK prog w h k b):Ent prog w h (k :: ks) (Hl es p (x,.ref b)).toList:=fun e he=>by
 have he':=(SetTable.insertAt_perm es p (x,xy b)).mem_iff.mp he
 rw [MK] at he'
 rcases HC.mp he' with q | q
 · obtain ⟨k',a,h1,h2,h3⟩:=hE e q
   exact ⟨k',a,l_ _ h1,h2,h3⟩
 · rw [Ih] at q
   subst q
   exact ⟨k,b,g_,rfl,hb⟩
theorem qZ {t:SetTable} {n:Nat} (T:Tb t n):t.fill=n:=by unfold PD; rw [T.size,T.dm]; simp
theorem iT {n:Nat} (h:n≤18):n≤sizeLine:=by rw [LV]; omega
theorem uQ {α:Type} (es:Array α):(h_ es.size).filterMap (fun i=>es[i]?)=es.toList:=by
 apply OM
 intro i
 have:(h_ es.size).filterMap (fun i=>es[i]?)=(h_ es.size).pmap (fun i h=>es[i]) (fun i h=>IF.mp h):=by
  rw [List.pmap_eq_map_attach,← List.filterMap_eq_map]
  conv=>lhs; rw [← List.attach_map_subtype_val (h_ es.size)]
  rw [Mz]
  congr 1
  funext ⟨i,hi⟩
  simp [IF.mp hi]
 rw [this]
 simp [List.getElem?_pmap,K0]
 by_cases hi:i < es.size
 · simp [hi]
 · simp [hi]
theorem Bs {S b:Addr} {ks:List (List Str)} {n:Nat} {k:List Str} {Q:Bool→c_→Prop} (hu:A.units < cLine) (hS:SetT prog w s.heap S ks n) (hx:TK prog w s.heap k b) (hk:k ∉ ks) (hn:n + 1≤18)
 (h:∀ h',Ir S s.heap h'→SetT prog w h' S (k :: ks) (n + 1)→Q true { s with heap:=h' }):k_ (p_ prog w) A (Nb S (.ref b) (hsh prog w k)) Q E s:=by
 obtain ⟨o,es,ep,t,ho,hex,hd,hsz,T,hm,hE⟩:=hS
 have hfit:=jD T
 have hfit':t.fits es.size=true:=by rw [hsz]; exact hfit
 have hodd:t.mask % 2=1:=by rcases hm with ⟨e,_⟩ | ⟨e,_⟩ <;> rw [e]
 have hroom:n + 1≤t.mask:=by rcases hm with ⟨e,q⟩ | ⟨e,q⟩ <;> omega
 unfold Nb NA
 refine HX (b_ (HM ho hd hfit' ?_))
 dsimp only
 have hbs:byScan (xy b) es=false:=by unfold byScan; rfl
 rw [hbs]
 simp only [rl,if_false]
 unfold setSearch
 obtain ⟨N,h1,h2,h3⟩:=Bp T (qU (t:=t) (hsh prog w k))
 have hmk:t.mask≤31:=by rcases hm with ⟨e,_⟩ | ⟨e,_⟩ <;> omega
 refine b_ (qY (ks:=ks) hu ho hd (by rw [hsz]; exact T) hodd hE hx hk N 100000 none (fun p hp=>by cases hp) (by unfold N7 at h1; omega) h2 h3 h1 fun j=>?_)
 dsimp only
 refine b_ (HM ho hd hfit' ?_)
 dsimp only
 obtain ⟨P1,P2,P3,P4,P5⟩:=Bq T hroom j
 have go:∀ bv:Bool,k_ (p_ prog w) A (do
  Pn S (Hl es (t.put j).2 (hsh prog w k,.ref b)) (if bv then (t.put j).1 else { (t.put j).1 with plain:=false })
  if (!false && (if bv then (t.put j).1 else { (t.put j).1 with plain:=false }).tooFull)=true then setRelay S (IY (es.size + 1))
  return true) Q E s:=by
  intro bv
  have T2:∃ t2,(if bv then (t.put j).1 else { (t.put j).1 with plain:=false })=t2∧Tb t2 (n + 1)∧t2.mask=t.mask:=by
   cases bv with
   | true=>exact ⟨_,rfl,P1,P3⟩
   | false=>exact ⟨_,rfl,⟨P1.size,P1.dm,P1.cyc,P1.room⟩,P3⟩
  obtain ⟨t2,e2,T2,M2⟩:=T2
  rw [e2]
  have hsz2:(Hl es (t.put j).2 (hsh prog w k,xy b)).size=n + 1:=by
   rw [fz _ _ _ (by rw [hsz]; exact P2),hsz]
  refine b_ (Lm ho hd ?_ (by rw [hsz2]; exact iT hn))
  have hsb:=Jo s.heap S (JS (Hl es (t.put j).2 (hsh prog w k,xy b)) t2)
  have hg:=kB (es':=Hl es (t.put j).2 (hsh prog w k,xy b)) (t':=t2) ho hd
  have hE2:Ent prog w (s.heap.update S (JS (Hl es (t.put j).2 (hsh prog w k,xy b)) t2)) (k :: ks) (Hl es (t.put j).2 (hsh prog w k,xy b)).toList:=(hE.insert hx).keeps ho hd hsb
  by_cases hf:t2.tooFull=true
  · rw [hf]
    simp only [LC,N9,if_true]
    have hfl:t2.fill * 5 ≥ t2.mask * 3:=by unfold OT at hf; simpa using hf
    rw [qZ T2,M2] at hfl
    have h5:n + 1=5∧t.mask=7:=by rcases hm with ⟨e,q⟩ | ⟨e,q⟩ <;> rw [e] at hfl <;> omega
    have hn4:n=4:=by omega
    unfold setRelay
    refine b_ (b_ (HM hg rfl (by rw [hsz2]; exact jD T2) ?_))
    dsimp only
    rw [hsz,hn4]
    rw [if_neg (by rw [LV]; decide)]
    have hrl:t2.relaid ((Hl es (t.put j).2 (hsh prog w k,xy b)).map (·.1)) (IY (4 + 1))=laid 31 t2.finger (t2.movedTo 31) t2.led t2.plain ((Hl es (t.put j).2 (hsh prog w k,xy b)).map (·.1)):=by
     unfold SetTable.relaid
     rw [show sizeAbove (IY (4 + 1)) - 1=31 by decide]
    obtain ⟨t3,order,r1,r2,r3,r4,r5,r6,r7⟩:=xS (finger:=t2.finger) (moves:=t2.movedTo 31) (led:=t2.led) (plain:=t2.plain) EM ((Hl es (t.put j).2 (hsh prog w k,xy b)).map (·.1)) (by rw [LF,hsz2]; omega)
    rw [hrl,r1]
    rw [LF,hsz2] at r6 r7
    have hperm:(order.filterMap (fun i=>(Hl es (t.put j).2 (hsh prog w k,xy b))[i]?)).toList.Perm (Hl es (t.put j).2 (hsh prog w k,xy b)).toList:=by
     rw [Array.toList_filterMap]
     refine (r7.filterMap _).trans ?_
     rw [← hsz2,uQ]
    have hsz3:(order.filterMap (fun i=>(Hl es (t.put j).2 (hsh prog w k,xy b))[i]?)).size=n + 1:=by
     rw [← Ib,hperm.length_eq,Ib,hsz2]
    show k_ (p_ prog w) A ((if ((order.filterMap (fun i=>(Hl es (t.put j).2 (hsh prog w k,xy b))[i]?)).size != (Hl es (t.put j).2 (hsh prog w k,xy b)).size)=true then (Nz "internal:set-table-lost-an-element":Sem _) else pure (order.filterMap (fun i=>(Hl es (t.put j).2 (hsh prog w k,xy b))[i]?),t3)) >>= fun x=>Pn S x.1 x.2) _ _ _
    rw [if_neg (by rw [hsz3,hsz2]; simp)]
    refine b_ (d_ ?_)
    refine Lm hg rfl ?_ (by rw [hsz3]; exact iT hn)
    have hsb2:=Jo (s.heap.update S (JS (Hl es (t.put j).2 (hsh prog w k,xy b)) t2)) S (JS (order.filterMap (fun i=>(Hl es (t.put j).2 (hsh prog w k,xy b))[i]?)) t3)
    refine d_ (h _ (hsb.trans hsb2) ⟨_,_,_,t3,kB hg rfl,hex,rfl,hsz3,r6,.inr ⟨r2,hn⟩,?_⟩)
    have hE3:=hE2.keeps hg rfl hsb2
    exact fun e he=>hE3 e (hperm.mem_iff.mp he)
  · have hf':t2.tooFull=false:=by simpa using hf
    rw [hf']
    simp only [LC,NS,rl,if_false]
    have hfl:¬ (t2.fill * 5 ≥ t2.mask * 3):=by unfold OT at hf'; simpa using hf'
    rw [qZ T2,M2] at hfl
    refine d_ (h _ hsb ⟨_,_,_,t2,hg,hex,rfl,hsz2,T2,?_,hE2⟩)
    rw [M2]
    rcases hm with ⟨e,q⟩ | ⟨e,q⟩
    · exact .inl ⟨e,by omega⟩
    · exact .inr ⟨e,hn⟩
 cases hpl:(t.put j).1.plain with
 | true =>
  simp only [if_true]
  refine b_ (lQ hx fun bv=>?_)
  exact go bv
 | false =>
  simp only [rl,if_false]
  refine b_ (d_ ?_)
  exact go true
end
end ST
namespace ST
open PySem PySem.SetTable PyProof.Rows
section
variable {prog:Program} {w:D_} {A:w_} {R:Ng→c_→Prop} {I:Addr} {fp wr:List Addr} {G:Array Mn→Array Mn→Prop} {n:Nat} {P:Nat→Value→Prop} {St:Nat→c_→Prop}
theorem TK.moved {h h':Heap} {k:List Str} {a:Addr} (x:TK prog w h k a) (hm:∀ o,h.get? a=some o→h'.get? a=some o):TK prog w h' k a:=by
 obtain ⟨o',items,n,ho',hc,hd',hi⟩:=x
 exact ⟨o',items,n,hm _ ho',hc,hd',hi⟩
theorem SetT.moved {h h':Heap} {S:Addr} {ks:List (List Str)} {n:Nat} (x:SetT prog w h S ks n) (hS:∀ o,h.get? S=some o→h'.get? S=some o) (hm:∀ k∈ks,∀ a,TK prog w h k a→TK prog w h' k a):SetT prog w h' S ks n:=by
 obtain ⟨o,es,ep,t,ho,hex,hd,hsz,T,hmk,hE⟩:=x
 exact ⟨o,es,ep,t,hS _ ho,hex,hd,hsz,T,hmk,fun e he=>let ⟨k,a,h1,h2,h3⟩:=hE e he; ⟨k,a,h1,h2,hm k h1 a h3⟩⟩
theorem EO (W:WalksS prog w A.in1 I fp wr G n P St) (S:Addr) (hSf:S ∉ fp) (hu:A.in1.units < cLine) (hwr:wr=[I]) (hI:∀ i s,St i s→∃ o vs,s.heap.get? I=some o∧o.data=.fields vs)
 (adr:Nat→Addr) (key:Nat→List Str) (hval:∀ i v,P i v→v=.ref (adr i)) (hn:n≤18) (hdist:∀ i j,i < n→j < n→key i=key j→i=j) :
 ∀ (k i:Nat) (s:c_),n - i=k→i≤n→St i s→(∀ j,j < n→TK prog w s.heap (key j) (adr j)) →
  SetT prog w s.heap S (((h_ i).map key).reverse) i →
  (∀ s',Moved (S :: wr) G s s'→SetT prog w s'.heap S (((h_ n).map key).reverse) n→R (.ok (.ret .none)) s') →
  Ki (p_ prog w) A (.builtin "set.update.loop" ⟨[.ref S,.ref I],[]⟩) R s:=by
 have hSw:S ∉ wr:=fun h=>hSf (W.sub _ h)
 have hsub:∀ b∈wr,b∈S :: wr:=fun b hb=>l_ _ hb
 have notI:∀ {i:Nat} {s:c_} {k:List Str} {a:Addr},St i s→TK prog w s.heap k a→a ∉ wr:=fun {i s k a} hst x hm=>by
  rw [hwr,Ih] at hm
  subst hm
  obtain ⟨o',items,n,ho',hc,hd',hi⟩:=x
  obtain ⟨o,vs,ho,hd⟩:=hI _ _ hst
  rw [ho] at ho'
  cases ho'
  rw [hd] at hd'
  cases hd'
 intro k
 induction k with
 | zero =>
  intro i s hk hi hst hT hS hR
  have hin:i=n:=by omega
  subst hin
  refine Ic Ke ?_
  rw [IN IP _]
  show k_ _ A.in1 (Kw (.ref I) >>= _) _ _ s
  refine b_ (W.done s _ _ hst fun s' hm=>?_)
  show k_ _ A.in1 (ret E_) _ _ s'
  exact d_ (hR s' (hm.mono hsub) (hS.moved (fun o ho=>hm.heap S _ hSw ho) fun k' _ a x=>x.moved fun o ho=>hm.heap a _ (notI hst x) ho))
 | succ k ih =>
  intro i s hk hi hst hT hS hR
  have hlt:i < n:=by omega
  refine Ic Ke ?_
  rw [IN IP _]
  show k_ _ A.in1 (Kw (.ref I) >>= _) _ _ s
  refine b_ (W.item i s _ _ hlt hst fun v s' hP hst' hm=>?_)
  have hv:=hval i v hP
  subst hv
  have hT':∀ j,j < n→TK prog w s'.heap (key j) (adr j):=fun j hj=>(hT j hj).moved fun o ho=>hm.heap _ _ (notI hst (hT j hj)) ho
  have hS':SetT prog w s'.heap S (((h_ i).map key).reverse) i:=hS.moved (fun o ho=>hm.heap S _ hSw ho) fun k' _ a x=>x.moved fun o ho=>hm.heap a _ (notI hst x) ho
  show k_ _ A.in1 (Pl [xy (adr i)] (setAdd S (.ref (adr i))) >>= _) _ _ s'
  refine b_ (HX ?_)
  unfold setAdd
  refine HX ?_
  refine b_ (wpAny_pyHash_tuple hu (hT' i hlt) ?_)
  have hnew:key i ∉ ((h_ i).map key).reverse:=fun hm=>by
   rw [List.mem_reverse] at hm
   obtain ⟨j,hj,e⟩:=Iv.mp hm
   have hj':=IF.mp hj
   have:=hdist j i (by omega) hlt e
   omega
  refine Bs (s:={ s' with toks:=s'.toks + ((key i).length + 1) }) hu hS' (hT' i hlt) hnew (by omega) fun h' hsb hS2=>?_
  obtain ⟨oS,esS,epS,tS,hoS,_,hdS,_⟩:=hS'
  have hS3:SetT prog w h' S (((h_ (i + 1)).map key).reverse) (i + 1):=by
   rw [Np,K_,List.reverse_append]
   exact hS2
  refine d_ ⟨LO IP _,ih (i + 1) _ (by omega) hlt (W.frame _ s' _ _ hst' (by simp) fun b hb o e=>?_) (fun j hj=>(hT' j hj).keeps hoS hdS hsb) hS3 fun s'' hm'' hS''=>?_⟩
  · rw [hsb.2 b (fun h:b=S=>hSf (by rw [← h]; exact hb))]; exact e
  · refine hR s'' (Moved.trans W.gtrans ((hm.mono hsub).then_heap (by simp) fun b o hb e=>?_) hm'') hS''
    rw [hsb.2 b (fun h:b=S=>hb (by rw [h]; exact g_))]; exact e
end
section
variable {prog:Program} {w:D_} {A:w_} {E:Value→c_→Prop} {s:c_}
abbrev du (led:Bool):Obj:={ cls:=.type "set",dict:=none,data:=.set #[] 0 (.fresh 0 0 led) }
theorem xT {h:Heap} {S:Addr} {led:Bool} (e:h.get? S=some (du led)):SetT prog w h S [] 0 :=
 ⟨_,#[],0,_,e,⟨rfl,rfl,rfl⟩,rfl,rfl,⟨rfl,rfl,GN,Hq _⟩,.inl ⟨rfl,by omega⟩,fun e he=>by simp at he⟩
theorem Bt {led:Bool} {l:Addr} {items:Array Value} {key:Nat→List Str} {adr:Nat→Addr} {R:Ng→c_→Prop} (hh:A.handled=none) (hu:A.units + 8 < cLine) (hl:s.heap.IsList l items)
 (hk:∀ i,i < items.size→items[i]?=some (.ref (adr i))∧TK prog w s.heap (key i) (adr i)) (hn:items.size≤18) (hdist:∀ i j,i < items.size→j < items.size→key i=key j→i=j)
 (hR:∀ (h':Heap) (tk:Nat),SetT prog w h' s.heap.objs.size (((h_ items.size).map key).reverse) items.size→(∀ b o,b < s.heap.objs.size→s.heap.get? b=some o→h'.get? b=some o)→R (.ok (.ret .none)) { s with heap:=h',toks:=tk }) :
 Ki (p_ prog w) A (.call (.builtin "set.__init__") ⟨[.ref s.heap.objs.size,.ref l],[]⟩) R { s with heap:=s.heap.push (du led) }:=by
 have hS:(s.heap.push (du led)).get? s.heap.objs.size=some (du led):=i_ _ rfl
 have hT:Jt { s with heap:=s.heap.push (du led) } (.ref s.heap.objs.size) "set":=⟨_,hS,rfl⟩
 refine JK Hs.init.plain M0 (MU hT ?_)
 obtain ⟨ol,hol,hcl,nl,hdl⟩:=hl
 obtain ⟨ocls,odict,odata,oslots⟩:=ol
 simp only at hcl hdl
 subst hcl; subst hdl
 have hol':(s.heap.push (du led)).get? l=some { cls:=.type "list",dict:=odict,data:=.seq items nl,slots:=oslots }:=e_ _ hol
 have s1:=F.sub_list_set
 have s2:=NJ
 have s3:(m_ "list" == m_ "dict")=false:=by decide
 have hl1:(s.heap.push (du led)).IsList l items:=⟨_,hol',rfl,nl,rfl⟩
 unfold Jw.«set.__init__» noKeywords Kr
 generalize hPI:Oc=PI
 wp_walk
 subst hPI
 refine Lo hl1 (b_ (Ln ?_))
 have hlS:l < s.heap.objs.size:=o_ hol
 have hneI:l≠(s.heap.push (du led)).objs.size:=by rw [F_]; exact t_ (HP hlS)
 have hSf:s.heap.objs.size ∉ [(s.heap.push (du led)).objs.size,l]:=by
  rw [F_]
  simp only [on,Hn,or_false,not_or]
  exact ⟨t_ (Ij _),Kn hlS⟩
 have up:∀ {k:List Str} {a:Addr},TK prog w s.heap k a→TK prog w ((s.heap.push (du led)).push { cls:=.type "list_iterator",data:=.fields #[.ref l,.int 0 0] }) k a:=fun x=>x.moved fun o e=>e_ _ (e_ _ e)
 refine EO ((Pv (by simp [hh]) _ l hneI items).toS) s.heap.objs.size hSf (by show A.units + 1 + 1 < cLine; omega) rfl (fun i s' st=>by
  obtain ⟨⟨o,ho,_,hd⟩,_⟩:=st
  exact ⟨o,_,ho,hd⟩) adr key (fun i v hv=>?_) hn hdist (items.size - 0) 0 _ (by omega) (Hq _) ⟨⟨_,i_ _ rfl,rfl,rfl⟩,(hl1.push _)⟩ (fun j hj=>up (hk j hj).2) ?_ ?_
 · have hi:i < items.size:=(Ja.mp hv).1
   have:=(hk i hi).1
   rw [this] at hv
   exact (HN hv).symm
 · exact xT (led:=led) (e_ _ hS)
 · intro s' hm hS'
   obtain ⟨h',g',d',tk',os'⟩:=s'
   have eg:g'=s.gens:=hm.gens
   have ed:d'=s.drawn:=hm.drawn
   have eo:os'=s.os:=hm.os
   subst eg; subst ed; subst eo
   show k_ _ _ _ _ _ _
   refine d_ ?_
   show k_ _ _ (ret E_) _ _ _
   refine d_ (hR h' tk' hS' fun b o hb e=>?_)
   have hb1:b≠s.heap.objs.size:=t_ hb
   have hb2:b≠(s.heap.push (du led)).objs.size:=by rw [F_]; exact t_ (HP hb)
   exact hm.heap b o (by simp only [on,Hn,or_false,not_or]; exact ⟨hb1,hb2⟩) (e_ _ (e_ _ e))
theorem call_set_T {l:Addr} {items:Array Value} {key:Nat→List Str} {adr:Nat→Addr} {Q:Value→c_→Prop} (hh:A.handled=none) (hu:A.units + 16 < cLine) (hl:s.heap.IsList l items)
 (hk:∀ i,i < items.size→items[i]?=some (.ref (adr i))∧TK prog w s.heap (key i) (adr i)) (hn:items.size≤18) (hdist:∀ i j,i < items.size→j < items.size→key i=key j→i=j)
 (h:∀ (h':Heap) (tk:Nat),SetT prog w h' s.heap.objs.size (((h_ items.size).map key).reverse) items.size→(∀ b o,b < s.heap.objs.size→s.heap.get? b=some o→h'.get? b=some o)→Q (.ref s.heap.objs.size) { s with heap:=h',toks:=tk }) :
 k_ (p_ prog w) A (call (.type "set") [.ref l]) Q E s:=by
 obtain ⟨c,tl,hmro⟩:=Hs.mro
 have hmade:=Hs.made
 have hsub:=Hs.sub
 refine Lb (L5 ?_)
 show k_ _ _ (callAny (.type "set") _) _ _ _
 refine d_ ⟨Km _ (by decide +kernel),Ic ME ?_⟩
 rw [Mv (LH "set" [.ref l] []) rfl]
 have h1:=Hs.notType
 have h2:=Hs.canCreate
 have hct:=MW (.ref l)
 repeat (any_goals (first | assumption | wp_step))
 refine Jh (code_set_new_1 (.ref l) (E:=E) (Q₁:=fun obj s₁=>∃ led:Bool,obj=.ref s.heap.objs.size∧s₁={ s with heap:=s.heap.push (du led) }) fun led=>⟨led,rfl,rfl⟩) fun r s₁ hr=>?_
 cases r with
 | error e=>exact hr
 | ok fl =>
  cases fl with
  | ret obj =>
   obtain ⟨led,rfl,rfl⟩:=hr
   have hT:Jt { s with heap:=s.heap.push (du led) } (.ref s.heap.objs.size) "set":=⟨_,i_ _ rfl,rfl⟩
   have hli:=Hs.init.lookup
   have hbi:=Hs.init.bind (.ref s.heap.objs.size)
   repeat (any_goals (first | assumption | wp_step))
   refine Jh (Bt (R:=wants (fun r s₂=>r=.none∧∃ h' tk,s₂={ s with heap:=h',toks:=tk }∧SetT prog w h' s.heap.objs.size (((h_ items.size).map key).reverse) items.size ∧
    (∀ b o,b < s.heap.objs.size→s.heap.get? b=some o→h'.get? b=some o)) E) (by simp [hh]) (by show A.units + 1 + 8 < cLine; omega) hl hk hn hdist fun h' tk q1 q2=>⟨rfl,h',tk,rfl,q1,q2⟩) fun r₂ s₂ hr₂=>?_
   cases r₂ with
   | error e=>exact hr₂
   | ok fl₂ =>
    cases fl₂ with
    | ret r =>
     obtain ⟨rfl,h',tk,rfl,hS',hk'⟩:=hr₂
     repeat (any_goals (first | assumption | wp_step))
     exact h _ _ hS' hk'
    | _=>exact hr₂.elim
  | _=>exact hr.elim
theorem len_T {S:Addr} {ks:List (List Str)} {n:Nat} {Q:Value→c_→Prop} (hS:SetT prog w s.heap S ks n) (hn:n≤18) (h:∀ t tk,Q (.int n t) { s with toks:=tk }):k_ (p_ prog w) A (call (.builtin "len") [.ref S]) Q E s:=by
 obtain ⟨o,es,ep,t,ho,hex,hd,hsz,T,hm,hE⟩:=hS
 subst hsz
 exact call_len_set ho hex hd (jD T) (Int.lt_of_le_of_lt (show ((es.size:Nat):Int)≤18 by omega) (by decide)) (h _ _)
end
end ST
namespace FD
open PySem PySem.Spec PyProof.Rows L2
def cV:List Dv→Option (List Str)
 | []=>some []
 | .str x :: r=>(cV r).map (x :: ·)
 | _=>none
def keysOf:List Dv→Option (List (List Str))
 | []=>some []
 | .tup ds :: r=>match cV ds,keysOf r with
  | some k,some ks=>some (k :: ks)
  | _,_=>none
 | _=>none
def g7:List Dv→Option (Rs Dv)
 | [.lst ds]=>match keysOf ds with
  | some ks=>if ks.Nodup∧ks.length≤18 then some (.ok (.int ks.length)) else none
  | none=>none
 | _=>none
section
variable {X:Cx} {pins:List (Addr×Obj)} {σ:L2.St} {H:Hp} {s:c_}
theorem iU {prog:Program} {w:D_}:∀ {ds:List Dv} {k:List Str} {ys:List V} {its:List Value},cV ds=some k→Reps X.K H ds ys→Vals ys its→PySem.ItemsAre (HY prog w) k its
 | [],k,ys,its,h,r,v=>by
  cases h
  cases (show ys=[] from r)
  cases v
  exact .nil
 | .str x :: ds,k,ys,its,h,r,v=>by
  obtain ⟨y,us,rfl,r1,r2⟩:∃ v us,ys=v :: us∧Rep X.K H (.str x) v∧Reps X.K H ds us:=r
  cases (show y=.str x from r1)
  obtain ⟨k',h1,rfl⟩:=Nl.mp (show (cV ds).map (x :: ·)=some k from h)
  cases v with
  | cons v1 v2 =>
   obtain ⟨t,rfl⟩:=v1
   exact .cons (by show LP x (.str x t)=true; simp [LP]) (iU h1 r2 v2)
 | .non :: ds,k,ys,its,h,r,v=>by cases h
 | .bl _ :: ds,k,ys,its,h,r,v=>by cases h
 | .int _ :: ds,k,ys,its,h,r,v=>by cases h
 | .tup _ :: ds,k,ys,its,h,r,v=>by cases h
 | .lst _ :: ds,k,ys,its,h,r,v=>by cases h
 | .scr _ :: ds,k,ys,its,h,r,v=>by cases h
 | .exn _ :: ds,k,ys,its,h,r,v=>by cases h
theorem EQ (I:Inv X pins σ H s) {ds:List Dv} {k:List Str} {v:V} {u:Value} (h:cV ds=some k) (r:Rep X.K H (.tup ds) v) (q:RelV v u):∃ a,u=.ref a∧ST.TK X.prog X.w s.heap k a:=by
 obtain ⟨a,xs,rfl,hH,rs⟩:=r.tupE
 cases (show u=xy a from q)
 obtain ⟨its,rv,⟨o,e,c,n,d⟩,hz⟩:=I.tuple (SqT.of hH)
 exact ⟨a,rfl,o,its.toArray,_,e,c,d,by simpa using iU h rs rv⟩
theorem q8 (I:Inv X pins σ H s):∀ {ds:List Dv} {ks:List (List Str)} {xs:List V} {its:List Value},keysOf ds=some ks→Reps X.K H ds xs→Vals xs its→ks.length=its.length∧∀ i,i < its.length→∃ a,its[i]?=some (.ref a)∧ST.TK X.prog X.w s.heap (ks.getD i []) a
 | [],ks,xs,its,h,r,v=>by
  cases h
  cases (show xs=[] from r)
  cases v
  exact ⟨rfl,fun i hi=>absurd hi (K9 _)⟩
 | .tup es :: ds,ks,xs,its,h,r,v=>by
  obtain ⟨y,us,rfl,r1,r2⟩:∃ v us,xs=v :: us∧Rep X.K H (.tup es) v∧Reps X.K H ds us:=r
  unfold keysOf at h
  split at h
  · rename_i k ks' h1 h2
    cases h
    cases v with
    | cons v1 v2 =>
     obtain ⟨a,rfl,ta⟩:=EQ I h1 r1 v1
     obtain ⟨q1,q2⟩:=q8 I h2 r2 v2
     refine ⟨by simp [q1],fun i hi=>?_⟩
     cases i with
     | zero=>exact ⟨a,rfl,ta⟩
     | succ i =>
      obtain ⟨a',e1,e2⟩:=q2 i (by simpa using hi)
      exact ⟨a',by simpa using e1,by simpa using e2⟩
  · cases h
 | .non :: ds,ks,xs,its,h,r,v=>by cases h
 | .bl _ :: ds,ks,xs,its,h,r,v=>by cases h
 | .int _ :: ds,ks,xs,its,h,r,v=>by cases h
 | .str _ :: ds,ks,xs,its,h,r,v=>by cases h
 | .lst _ :: ds,ks,xs,its,h,r,v=>by cases h
 | .scr _ :: ds,ks,xs,its,h,r,v=>by cases h
 | .exn _ :: ds,ks,xs,its,h,r,v=>by cases h
theorem oW {α:Type} {ks:List α} {d:α} (h:ks.Nodup) {i j:Nat} (hi:i < ks.length) (hj:j < ks.length) (e:ks.getD i d=ks.getD j d):i=j:=by
 rw [KS,KS,u_ hi,u_ hj] at e
 exact (O7 h).mp (by simpa using e)
end
section
variable {X:Cx} {p p2 pos pos2:Pos} {e:Expr} {ga:FnA}
theorem q9 (hu:X.A.units + 64 < cLine) (hc:X.calm=true) (hg:Gl X "len") (hm:X.mg "len"=none) (hg2:Gl X "set") (hm2:X.mg "set"=none) (ha:FA X [e] ga)
 (he:f_ [.Call (.Name "set" p2) [e] [] pos2] X.env=(false,eval (.Call (.Name "set" p2) [e] [] pos2) X.env) :: f_ [] X.env:=by kernel_rfl) (hpl:(Ho pos (f_ [] X.env)).any (·.1)=false:=by kernel_rfl)
 (he2:f_ [e] X.env=(false,eval e X.env) :: f_ [] X.env:=by kernel_rfl) (hpl2:(Ho pos2 (f_ [] X.env)).any (·.1)=false:=by kernel_rfl) :
 FE X (.Call (.Name "len" p) [.Call (.Name "set" p2) [e] [] pos2] [] pos) (fB1 g7 ga):=⟨fun pins s σ H Q I ⟨ρ,E,o⟩=>by
 refine Ix (dh I hg hm Pr ?_ (by decide) (by decide))
 refine Kc ?_ he hpl
 rw [he]
 show k_ _ _ (Pk ((false,eval (.Call (.Name "set" p2) [e] [] pos2) X.env) :: Ho pos (f_ [] X.env))) _ _ s
 refine Mr ?_
 refine Ix (dh I hg2 hm2 (u:=.type "set") (by decide +kernel) ?_ (by decide) (by decide))
 refine H_ (thn (ha.h pos2 pins s σ H _ I ⟨ρ,E,OutA.bind o fun ds vs H1 e1 rs o1=>(show ∃ ds,Reps X.K H1 ds vs∧Out X H1 (g7 ds) Q from ⟨ds,rs,o1⟩)⟩) fun us s1 ⟨vs,H1,I1,r1,ds,rs,o1⟩=>?_) he2 hpl2
 unfold g7 at o1
 split at o1
 · rename_i es
   obtain ⟨v,rfl,r⟩:=bD rs
   obtain ⟨l,xs,rfl,hl,rx⟩:=r.lstE
   obtain ⟨u,rfl,ru⟩:=cT r1
   cases (show u=xy l from ru)
   split at o1
   · rename_i ks hks
     split at o1
     · rename_i hnd
       obtain ⟨z,its,n,rv,hz,eh⟩:=I1.lstM hl
       obtain ⟨q1,q2⟩:=q8 I1 hks rx rv
       have hsz:its.toArray.size=ks.length:=by simp [q1]
       refine ST.call_set_T (items:=its.toArray) (key:=fun i=>ks.getD i []) (adr:=fun i=>match its[i]? with | some (.ref a)=>a | _=>0) (I1.ok.hd hc) (by omega) ⟨_,eh,rfl,n,rfl⟩ (fun i hi=>?_) (by rw [hsz]; exact hnd.2) (fun i j hi hj eij=>?_) fun h' tk hS hkp=>?_
       · obtain ⟨a,e1,e2⟩:=q2 i (by simpa using hi)
         simp only [List.getElem?_toArray,e1]
         exact ⟨trivial,e2⟩
       · exact oW hnd.1 (by rw [← hsz]; exact hi) (by rw [← hsz]; exact hj) eij
       · refine Lv ?_
         refine ST.len_T hS (by rw [hsz]; exact hnd.2) fun t tk2=>⟨.int (ks.length:Nat),H1,?_,⟨t,by rw [hsz]⟩,o1 _ H1 (.refl H1) rfl⟩
         exact I1.kept (t':=tk2) fun b u q=>hkp b u (o_ q) q
     · exact o1.elim
   · exact o1.elim
 · exact o1.elim⟩
end
def zl:Dv→Dv→Option (Rs Dv)
 | .lst xs,.int n=>if 0≤n∧xs.length * n.toNat≤100000∧n≤100000 then some (.ok (.lst (q_ n.toNat xs).flatten)) else none
 | x,y=>Gg x y
section
variable {X:Cx}
theorem nz {K:ck} {H:Hp} {ds:List Dv} {vs:List V} (h:Reps K H ds vs):∀ n:Nat,Reps K H (q_ n ds).flatten (q_ n vs).flatten
 | 0=>rfl
 | n + 1=>by
  rw [ID,ID,JN,JN]
  exact h.append (nz h n)
def Bu:R2:=fun x y H Q=>F5 x y H Q∨(uE x y H Q∨rI CMul (fun i j=>.int (i * j)) x y H Q)
theorem Bv:OpR X (Jd .Mult) Bu:=op_rep.or Ba
theorem Bw:GOp X Bu zl:=by
 intro dx dy x y H Q rx ry o
 cases dx with
 | lst xs =>
  cases dy with
  | int n =>
   have o2:Out X H (if 0≤n∧xs.length * n.toNat≤100000∧n≤100000 then some (.ok (.lst (q_ n.toNat xs).flatten)) else none) Q:=o
   by_cases hc:0≤n∧xs.length * n.toNat≤100000∧n≤100000
   · rw [if_pos hc] at o2
     obtain ⟨p,vs,rfl,h1,q1⟩:=rx.lstE
     refine .inl ⟨p,n,vs,rfl,ry,h1,by omega,by omega,by rw [q1.length]; exact ba hc.2.1,fun l hl=>o2 _ _ (aq hl _) ⟨l,_,rfl,ak,Reps.mono (aq hl _) _ _ (nz q1 _)⟩⟩
   · rw [if_neg hc] at o2
     exact o2.elim
  | _=>exact .inr (vZ _ _ x y H Q rx ry o)
 | _=>exact .inr (vZ _ _ x y H Q rx ry o)
end
def frs {α:Type} (P:α→Bool):Sem α→Bool
 | .pure a=>P a
 | .fresh _=>true
 | .at _ k=>frs P (k ())
 | .rule _ k=>frs P (k ())
 | .point _ k=>frs P (k ())
 | _=>false
structure FE1 (X:Cx) (e:Expr) (f:FnE):Prop where
 h:∀ (pins:List (Addr×Obj)) (s:c_) (σ:L2.St) (H:Hp) (Q:VK),1≤s.toks→Inv X pins σ H s→tF X f σ H Q→k_ (p_ X.prog X.w) X.A (eval e X.env) (EP X pins σ Q) X.xe s
structure FT1 (X:Cx) (e:Expr) (f:FnB):Prop where
 h:∀ (pins:List (Addr×Obj)) (s:c_) (σ:L2.St) (H:Hp) (Q:Bool→Hp→Prop),1≤s.toks→Inv X pins σ H s→tT X f σ H Q→k_ (p_ X.prog X.w) X.A (isTrue e X.env (eval e X.env)) (TP X pins σ Q) X.xe s
structure FW1 (X:Cx) (e:Expr) (f:FnB):Prop where
 h:∀ (whole:Sem Value) (pins:List (Addr×Obj)) (s:c_) (σ:L2.St) (H:Hp) (Q:Bool→Hp→Prop),1≤s.toks→Inv X pins σ H s→tT X f σ H Q→k_ (p_ X.prog X.w) X.A (isTrue e X.env whole) (TP X pins σ Q) X.xe s
structure FS1 (X:Cx) (st:Stmt) (f:FnS):Prop where
 h:∀ (pins:List (Addr×Obj)) (s:c_) (σ:L2.St) (H:Hp) (D:pH),1≤s.toks→Inv X pins σ H s→tS X f D σ H→k_ (p_ X.prog X.w) X.A (exec st X.env) (SP X pins D) X.xe s
structure Hj (X:Cx) (st:List Stmt) (f:FnS):Prop where
 h:∀ (pins:List (Addr×Obj)) (s:c_) (σ:L2.St) (H:Hp) (D:pH),1≤s.toks→Inv X pins σ H s→tS X f D σ H→k_ (p_ X.prog X.w) X.A (execs st X.env) (SP X pins D) X.xe s
structure FTg (X:Cx) (e:Expr) (f:FnB):Prop where
 h:∀ (pins:List (Addr×Obj)) (s:c_) (σ:L2.St) (H:Hp) (Q:Bool→Hp→Prop),Inv X pins σ H s→tT X f σ H Q→k_ (p_ X.prog X.w) X.A (isTrue e X.env (eval e X.env)) (fun b s'=>(b=true∨1≤s'.toks)∧TP X pins σ Q b s') X.xe s
structure FWg (X:Cx) (e:Expr) (f:FnB):Prop where
 h:∀ (whole:Sem Value) (pins:List (Addr×Obj)) (s:c_) (σ:L2.St) (H:Hp) (Q:Bool→Hp→Prop),Inv X pins σ H s→tT X f σ H Q→k_ (p_ X.prog X.w) X.A (isTrue e X.env whole) (fun b s'=>(b=true∨1≤s'.toks)∧TP X pins σ Q b s') X.xe s
def Bx:Flow→Bool
 | .next=>true
 | _=>false
structure FSg (X:Cx) (st:Stmt) (f:FnS):Prop where
 h:∀ (pins:List (Addr×Obj)) (s:c_) (σ:L2.St) (H:Hp) (D:pH),Inv X pins σ H s→tS X f D σ H→k_ (p_ X.prog X.w) X.A (exec st X.env) (fun fl s'=>(Bx fl=false∨1≤s'.toks)∧SP X pins D fl s') X.xe s
section
variable {X:Cx} {a b o e:Expr} {fa fo:FnE} {ga gb:FnB} {f g:FnS} {rest:List Expr} {st:Stmt} {sts as bs:List Stmt} {pos apos cpos:Pos}
theorem FWg.ft (h:FWg X e ga):FTg X e ga:=⟨h.h _⟩
end
section
variable {prog:Program} {w:D_} {A:w_} {E:Value→c_→Prop} {s:c_}
theorem oX {iv tv:Addr} {k:Nat} {vs:Array Value} {v:Value} {Q:Value→c_→Prop} (gi:s.heap.IsTupleIter iv tv k) (gt:s.heap.IsTuple tv vs) (gv:vs[k]?=some v)
 (q:∀ h',h'.IsTupleIter iv tv (k + 1)→Ir iv s.heap h'→Q v { s with heap:=h' }):k_ (p_ prog w) A (Jz (.ref iv)) Q E s:=by
 obtain ⟨ob,o1,o2,o3⟩:=id gi; obtain ⟨tb,t1,_,m,t2⟩:=gt
 unfold Jz
 refine b_ (HJ (name:=a_ "__next__") gi.typeIs Jv (HS Jv gi.typeIs Md ?_ (L6 _)))
 show k_ _ _ (Pp (.ref iv) 0 >>= _) _ _ s; refine b_ (IL o1 o3 (x:=.ref tv) rfl ?_)
 show k_ _ _ (if (xy tv == E_)=true then _ else _) _ _ s; rw [if_neg (show ¬ ((xy tv == E_)=true) from pi)]
 show k_ _ _ (Pp (.ref iv) 1 >>= _) _ _ s; refine b_ (IL o1 o3 (x:=.int k 0) rfl ?_)
 show k_ _ _ (seqItems? (.ref tv) >>= _) _ _ s; refine b_ (KL t1 t2 ?_); simp only [KH,gv]
 refine b_ (wpAny_setField o1 o3 (by simp) (d_ ⟨v,rfl,d_ (q _ ⟨_,Je _ o1 (Obj.isFreed_of_fields (Oj o3 _)),(Obj.cls_mapFields ..).trans o2,by rw [Oj o3]; simp [IT]⟩ (Jo ..))⟩))
theorem rg {iv tv:Addr} {k:Nat} {vs:Array Value} {Q:Value→c_→Prop} (hh:A.handled=none) (gi:s.heap.IsTupleIter iv tv k) (gt:s.heap.IsTuple tv vs) (gv:vs[k]?=none)
 (q:∀ h' e,NI iv s.heap h'→(∃ o,h'.get? e=some o∧o.cls=.type "StopIteration")→E (.ref e) { s with heap:=h' }):k_ (p_ prog w) A (Jz (.ref iv)) Q E s:=by
 obtain ⟨ob,o1,o2,o3⟩:=id gi; obtain ⟨tb,t1,_,m,t2⟩:=gt
 unfold Jz
 refine b_ (HJ (name:=a_ "__next__") gi.typeIs Jv (HS Jv gi.typeIs Md ?_ (L6 _)))
 show k_ _ _ (Pp (.ref iv) 0 >>= _) _ _ s; refine b_ (IL o1 o3 (x:=.ref tv) rfl ?_)
 show k_ _ _ (if (xy tv == E_)=true then _ else _) _ _ s; rw [if_neg (show ¬ ((xy tv == E_)=true) from pi)]
 show k_ _ _ (Pp (.ref iv) 1 >>= _) _ _ s; refine b_ (IL o1 o3 (x:=.int k 0) rfl ?_)
 show k_ _ _ (seqItems? (.ref tv) >>= _) _ _ s; refine b_ (KL t1 t2 ?_); simp only [KH,gv]
 refine b_ (JP (b_ (wpAny_setField o1 o3 (by simp) ?_)))
 show k_ _ _ (newExc (.type "StopIteration") [] >>= _) _ _ _; refine b_ ?_; simp only [newExc,Ot]; refine b_ (Hy ?_ (by size_fits))
 refine b_ (m:=KM _ _) (JJ (a:=E_) (by first | rfl | (simp only [KM]; rfl)) ?_); refine Hy ?_ (by size_fits); simp only [raiseNew]
 refine b_ (N4 ?_); first | rw [show A.in1.handled=none from hh] | rw [hh]
 exact b_ (d_ (O9 (q _ _ (((Jo ..).extBut.push _).push _) ⟨_,i_ _ rfl,rfl⟩)))
end
abbrev zq1 (h:Heap) (l1:Addr):Heap:=h.push { cls:=.type "tuple_iterator",data:=.fields #[.ref l1,.int 0 0] }
section
variable {prog:Program} {w:D_} {A:w_} {E:Value→c_→Prop} {s:c_}
end
structure ZSt (z TI TO i1 i2 a b:Addr) (i:Nat) (h:Heap):Prop where
 z:IsZip h z TI TO .none
 ti:IsPair h TI (.ref i1) (.ref i2)
 to:∃ p q,IsPair h TO p q
 j1:h.IsTupleIter i1 a i
 j2:h.IsTupleIter i2 b i
structure ZNe (z TI TO i1 i2:Addr):Prop where
 n1:TI≠z
 n2:TO≠z
 n3:i1≠z
 n4:i2≠z
 n5:TI≠TO
 n6:TI≠i1
 n7:TI≠i2
 n8:TO≠i1
 n9:TO≠i2
 n10:i1≠i2
theorem Hk {z TI TO i1 i2 c:Addr} (h:c∈[z,TI,TO,i1,i2]):c=z∨c=TI∨c=TO∨c=i1∨c=i2:=by simpa using h
def tgG (X:Cx) (b:Dv→Ev→Option Ev):TG:=fun v σ H Q=>∃ d ρ ρ',Rep X.K H d v∧Envs X.K H σ ρ∧b d ρ=some ρ'∧∀ σ' H',Same H H'→Envs X.K H' σ' ρ'→Q σ' H'
theorem FG.pg {X:Cx} {tg:Expr} {b:Dv→Ev→Option Ev} (h:FG X tg b):PG X tg (tgG X b):=fun pins s σ H v u Q I r ⟨d,ρ,ρ',rd,E,e,q⟩ =>
 thn (h.h pins s σ H v u d ρ ρ' I r rd E e) fun _ s' ⟨σ',H',I',e1,E'⟩=>⟨σ',H',I',q σ' H' e1 E'⟩
section
variable {X:Cx} {p pos:Pos} {e:Expr} {es:List Expr} {ga:FnA}
end
theorem Reps.set {K:ck} {H:Hp} {d:Dv} {v:V} (rd:Rep K H d v):∀ {ds:List Dv} {vs:List V} (j:Nat),Reps K H ds vs→Reps K H (ds.set j d) (vs.set j v)
 | [],vs,j,r=>by cases (show vs=[] from r); exact r
 | d0 :: ds,vs,0,r=>by
  obtain ⟨v0,vs',rfl,r0,rt⟩:∃ v us',vs=v :: us'∧Rep K H d0 v∧Reps K H ds us':=r
  exact ⟨v,vs',rfl,rd,rt⟩
 | d0 :: ds,vs,j + 1,r=>by
  obtain ⟨v0,vs',rfl,r0,rt⟩:∃ v us',vs=v :: us'∧Rep K H d0 v∧Reps K H ds us':=r
  exact ⟨v0,vs'.set j v,rfl,r0,Reps.set rd j rt⟩
section
variable {X:Cx} {i:Nat} {e ix:Expr} {fe fi:FnE} {pos ps:Pos}
end
section
variable {X:Cx} {p pos:Pos} {e:Expr} {es:List Expr} {ga:FnA}
end
section
variable {X:Cx}
end
section
variable {X:Cx}
end
end FD
namespace ST
open PySem PySem.SetTable
abbrev Rise (xs:Array Nat):Prop:=xs.toList.Pairwise (· < ·)
theorem Rise.lt {xs:Array Nat} (R:Rise xs) {i k:Nat} (hi:i < xs.size) (hk:k < xs.size) (h:i < k):xs[i] < xs[k]:=by
 have:=KW.mp R i k (by simpa using hi) (by simpa using hk) h
 simpa using this
theorem Rise.le {xs:Array Nat} (R:Rise xs) {i k:Nat} (hi:i < xs.size) (hk:k < xs.size) (h:i≤k):xs[i]≤xs[k]:=by
 rcases Nat.lt_or_ge i k with h' | h'
 · exact Jj (R.lt hi hk h')
 · have:i=k:=by omega
   subst this
   exact n_ _
def tm (m:Nat):SetTable:={ mask:=m,place:=#[],dummies:=#[],finger:=0,led:=true,moves:=0,plain:=true }
def pos (m:Nat) (h:Int) (n:Nat):Nat:=(advN (tm m) n ((tm m).probeStart h)).j
def Pth (m:Nat) (l:List Nat) (h:Int) (j:Nat):Prop:=∃ N,N < 10 * N7 m∧pos m h N=j∧∀ x,x < N→pos m h x∈l
theorem Pth.mono {m:Nat} {l l':List Nat} {h:Int} {j:Nat} (p:Pth m l h j) (hs:∀ x∈l,x∈l'):Pth m l' h j:=by
 obtain ⟨N,h1,h2,h3⟩:=p
 exact ⟨N,h1,h2,fun x hx=>hs _ (h3 x hx)⟩
def asc (t:SetTable) (es:Array (Int×Value)):List (Nat×(Int×Value)):=t.place.toList.zip es.toList
def Pa (t:SetTable) (es:Array (Int×Value)):Prop:=∀ je∈asc t es,Pth t.mask t.place.toList je.2.1 je.1
section
variable {prog:Program} {w:D_} {A:w_} {E:Value→c_→Prop} {s:c_}
def SetD (prog:Program) (w:D_) (h:Heap) (S:Addr) (ks:List (List Str)) (n:Nat):Prop :=
 ∃ o es ep t,h.get? S=some o∧o.ExactSet∧o.data=.set es ep t∧es.size=n∧Tb t n∧((t.mask=7∧n≤4)∨(t.mask=31∧n≤18)∨(t.mask=127∧n≤20))∧Ent prog w h ks es.toList∧Rise t.place∧Pa t es∧∀ k∈ks,∃ a,(hsh prog w k,xy a)∈es.toList∧TK prog w h k a
end
end ST
namespace ST
open PySem PySem.SetTable PyProof.Rows
def addK {α:Type} [DecidableEq α] (acc:List α) (k:α):List α:=if k∈acc then acc else k :: acc
def ddk {α:Type} [DecidableEq α] (ks:List α):List α:=ks.foldl addK []
theorem uR {α:Type} [DecidableEq α] (acc:List α) (k:α):(addK acc k).length≤acc.length + 1:=by unfold addK; split <;> simp
theorem fA {α:Type} [DecidableEq α]:∀ (ks acc:List α),(ks.foldl addK acc).length≤acc.length + ks.length
 | [],acc=>n_ _
 | k :: ks,acc=>by
  have h1:=fA ks (addK acc k)
  have h2:=uR acc k
  rw [L9,Il]
  omega
theorem ddk_le {α:Type} [DecidableEq α] (ks:List α):(ddk ks).length≤ks.length:=by
 have:=fA ks []
 unfold ddk
 simpa using this
section
variable {prog:Program} {w:D_} {A:w_} {R:Ng→c_→Prop} {I:Addr} {fp wr:List Addr} {G:Array Mn→Array Mn→Prop} {n:Nat} {P:Nat→Value→Prop} {St:Nat→c_→Prop}
theorem SetD.moved {h h':Heap} {S:Addr} {ks:List (List Str)} {n:Nat} (x:SetD prog w h S ks n) (hS:∀ o,h.get? S=some o→h'.get? S=some o) (hm:∀ k a,TK prog w h k a→TK prog w h' k a):SetD prog w h' S ks n:=by
 obtain ⟨o,es,ep,t,ho,hex,hd,hsz,T,hmk,hE,R,hP,hA⟩:=x
 exact ⟨o,es,ep,t,hS _ ho,hex,hd,hsz,T,hmk,fun e he=>let ⟨k,a,h1,h2,h3⟩:=hE e he; ⟨k,a,h1,h2,hm k a h3⟩,R,hP,fun k hk=>let ⟨a,q1,q2⟩:=hA k hk; ⟨a,q1,hm k a q2⟩⟩
end
section
variable {prog:Program} {w:D_} {A:w_} {E:Value→c_→Prop} {s:c_}
end
end ST
namespace FD
open PySem PySem.Spec PyProof.Rows L2
theorem range_getD {α:Type} (ks:List α) (d:α) (n:Nat) (h:n=ks.length):(h_ n).map (fun i=>ks.getD i d)=ks:=by
 subst h
 apply OM
 intro i
 by_cases hi:i < ks.length
 · simp [hi]
 · simp [hi]
section
variable {X:Cx} {p p2 pos pos2:Pos} {e:Expr} {ga:FnA}
end
section
variable {prog:Program} {w:D_} {A:w_} {E:Value→c_→Prop} {s:c_}
end
section
variable {prog:Program} {w:D_} {A:w_} {E:Value→c_→Prop} {s:c_}
end
structure ZMt (z TI TO i1 i2 a b:Addr) (i:Nat) (h:Heap):Prop where
 z:IsZip h z TI TO .none
 ti:IsPair h TI (.ref i1) (.ref i2)
 to:∃ p q,IsPair h TO p q
 j1:h.IsTupleIter i1 a i
 j2:h.IsListIter i2 b i
def tC (X:Cx) (i:Nat) (fc:FnE):TS:=fun D σ H=>∃ ρ,Envs X.K H σ ρ∧match fc ρ with
 | none=>False
 | some (.exc c)=>XW X c H
 | some (.ok d)=>∃ ys,d=.lst ys∧∀ H5 p vs,Same H H5→H5 p=none→Reps X.K H5 ys vs→D.nx (σ.set i (some (.ref p))) (upd H5 p (.lst vs))
section
variable {X:Cx} {i:Nat} {st:Stmt} {sts:List Stmt} {f:iG} {fc:FnE}
theorem kG {n:Nat} {cs:List (Str×Nat)} {src:FnA} {b:Dv→Ev→Option Ev} {tst:Option FnB} {fe:FnE} (ρ:Ev) (d:Dv) (h:aG n cs src b tst fe ρ=some (.ok d)):∃ ys,d=.lst ys:=by
 rcases Ew h with ⟨c,e1,e2⟩ | ⟨ds,ys,e1,e2,l1,l2,e3⟩
 · cases e2
 · cases e3; exact ⟨ys,rfl⟩
end
def lB {α:Type} (le:α→α→Bool) (x:α):List α→List α
 | []=>[x]
 | y :: l=>if le x y then x :: y :: l else y :: lB le x l
def isortB {α:Type} (le:α→α→Bool):List α→List α
 | []=>[]
 | x :: l=>lB le x (isortB le l)
theorem dC {α:Type} (le:α→α→Bool) (x:α):∀ l:List α,(lB le x l).Perm (x :: l)
 | []=>.refl _
 | y :: l=>by
  unfold lB
  split
  · exact .refl _
  · exact ((dC le x l).cons y).trans (NR ..)
theorem isortB_perm {α:Type} (le:α→α→Bool):∀ l:List α,(isortB le l).Perm l
 | []=>.refl _
 | x :: l=>(dC le x _).trans ((isortB_perm le l).cons x)
structure Dx {α:Type} (le:α→α→Bool):Prop where
 t:∀ a b,le a b=false→le b a=true
 tr:∀ a b c,le a b=true→le b c=true→le a c=true
 an:∀ a b,le a b=true→le b a=true→a=b
theorem g8 {α:Type} {le:α→α→Bool} (o:Dx le) (x:α):∀ l:List α,l.Pairwise (fun a b=>le a b=true)→(lB le x l).Pairwise (fun a b=>le a b=true)
 | [],_=>by simp [lB]
 | y :: l,h=>by
  unfold lB
  rw [G_] at h
  split
  · rename_i hc
    rw [G_,G_]
    refine ⟨fun z hz=>?_,h⟩
    rcases on.mp hz with rfl | hz
    · exact hc
    · exact o.tr _ _ _ hc (h.1 z hz)
  · rename_i hc
    rw [G_]
    refine ⟨fun z hz=>?_,g8 o x l h.2⟩
    rcases on.mp ((dC le x l).mem_iff.mp hz) with rfl | hz
    · exact o.t _ _ (by simpa using hc)
    · exact h.1 z hz
theorem isortB_sorted {α:Type} {le:α→α→Bool} (o:Dx le):∀ l:List α,(isortB le l).Pairwise (fun a b=>le a b=true)
 | []=>LA
 | x :: l=>g8 o x _ (isortB_sorted o l)
theorem sorted_uniq {α:Type} {le:α→α→Bool} (o:Dx le):∀ {l m:List α},l.Perm m→l.Pairwise (fun a b=>le a b=true)→m.Pairwise (fun a b=>le a b=true)→l=m
 | [],m,hp,_,_=>(List.Perm.nil_eq hp)
 | x :: l,[],hp,_,_=>by simpa using hp.length_eq
 | x :: l,y :: m,hp,h1,h2=>by
  rw [G_] at h1 h2
  have e:x=y:=by
   have hx:x∈y :: m:=hp.mem_iff.mp g_
   have hy:y∈x :: l:=hp.mem_iff.mpr g_
   rcases on.mp hx with e | hx
   · exact e
   · rcases on.mp hy with e | hy
     · exact e.symm
     · exact o.an _ _ (h1.1 y hy) (h2.1 x hx)
  subst e
  rw [sorted_uniq o (hp.cons_inv) h1.2 h2.2]
def leS (a b:Str):Bool:=!decide (b.cps.toList < a.cps.toList)
theorem ordS:Dx leS where
 t:=fun a b h=>by
  simp only [leS,Bool.not_eq_false',decide_eq_true_eq] at h
  simp only [leS,Iw,decide_eq_false_iff_not]
  exact fun h'=>List.lt_irrefl _ (List.lt_trans h h')
 tr:=fun a b c h h'=>by
  simp only [leS,Iw,decide_eq_false_iff_not,NO] at *
  exact List.le_trans h h'
 an:=fun a b h h'=>by
  simp only [leS,Iw,decide_eq_false_iff_not,NO] at *
  have e:a.cps.toList=b.cps.toList:=O4 h h'
  obtain ⟨⟨a⟩⟩:=a; obtain ⟨⟨b⟩⟩:=b
  simp at e
  rw [e]
section
variable {X:Cx} {pins:List (Addr×Obj)} {σ:L2.St} {H:Hp} {s:c_}
theorem jE {K:ck}:∀ {ds:List Dv} {ns:List Str} {ys:List V} {its:List Value},cV ds=some ns→Reps K H ds ys→Vals ys its→Pm its ns
 | [],ns,ys,its,h,r,v=>by
  cases h
  cases (show ys=[] from r)
  cases v
  exact .nil
 | .str i :: ds,ns,ys,its,h,r,v=>by
  obtain ⟨y,us,rfl,r1,r2⟩:∃ v us,ys=v :: us∧Rep K H (.str i) v∧Reps K H ds us:=r
  cases (show y=.str i from r1)
  obtain ⟨k',h1,rfl⟩:=Nl.mp (show (cV ds).map (i :: ·)=some ns from h)
  cases v with
  | cons v1 v2 =>
   obtain ⟨t,rfl⟩:=v1
   exact .cons i t (jE h1 r2 v2)
 | .non :: ds,_,_,_,h,_,_=>by cases h
 | .bl _ :: ds,_,_,_,h,_,_=>by cases h
 | .int _ :: ds,_,_,_,h,_,_=>by cases h
 | .tup _ :: ds,_,_,_,h,_,_=>by cases h
 | .lst _ :: ds,_,_,_,h,_,_=>by cases h
 | .scr _ :: ds,_,_,_,h,_,_=>by cases h
 | .exn _ :: ds,_,_,_,h,_,_=>by cases h
theorem eY:∀ {its:List Value} {ns:List Int},OI its ns→Vals (ns.map V.int) its
 | _,_,.nil=>.nil
 | _,_,.cons n t h=>.cons ⟨t,rfl⟩ (eY h)
theorem iV:∀ {its:List Value} {ns:List Str},Pm its ns→Vals (ns.map V.str) its
 | _,_,.nil=>.nil
 | _,_,.cons n t h=>.cons ⟨t,rfl⟩ (iV h)
theorem kH {K:ck} (H:Hp):∀ ns:List Int,Reps K H (ns.map Dv.int) (ns.map V.int)
 | []=>rfl
 | n :: ns=>⟨_,_,rfl,rfl,kH H ns⟩
theorem iW {K:ck} (H:Hp):∀ ns:List Str,Reps K H (ns.map Dv.str) (ns.map V.str)
 | []=>rfl
 | n :: ns=>⟨_,_,rfl,rfl,iW H ns⟩
theorem kJ:∀ (p:Str) (l:List Str),risingS p l=true→(p :: l).Pairwise (fun a b=>leS a b=true)
 | p,[],_=>by simp
 | p,x :: r,h=>by
  have h':(!ltCps x.cps.toList p.cps.toList)=true∧risingS x r=true:=by simpa [risingS] using h
  have ih:=kJ x r h'.2
  have hx:leS p x=true:=by
   unfold leS
   rw [← ltCps_eq]
   exact h'.1
  rw [G_]
  refine ⟨fun z hz=>?_,ih⟩
  rw [G_] at ih
  rcases on.mp hz with rfl | hz
  · exact hx
  · exact ordS.tr _ _ _ hx (ih.1 z hz)
theorem sortedS_pw (l:List Str) (h:sortedS l=true):l.Pairwise (fun a b=>leS a b=true):=by
 cases l with
 | nil=>exact .nil
 | cons x r=>exact kJ x r h
theorem line64 {n:Nat} (h:n < 64):n≤sizeLine:=by
 have:sizeLine=16777216:=by decide
 omega
end
section
variable {X:Cx} {p pos:Pos} {e:Expr} {es:List Expr} {ga:FnA}
end
section
variable {X:Cx} {p pos:Pos} {e:Expr} {es:List Expr} {ga:FnA}
end
section
variable {X:Cx} {p pos:Pos} {e:Expr} {es:List Expr} {ga:FnA}
end
section
variable {prog:Program} {w:D_} {A:w_} {E:Value→c_→Prop} {s:c_}
theorem uS {e it l:Addr} {i:Nat} {vs:Array Value} {x old:Value} {Q:Option Value→c_→Prop} (ge:Ni s.heap e it i old) (gi:s.heap.IsTupleIter it l i) (gt:s.heap.IsTuple l vs) (gx:vs[i]?=some x) (ne:e≠it)
 (q:∀ h',IsEnumOut h' e it ((i:Int) + 1) x s.heap.objs.size→h'.IsTupleIter it l (i + 1)→h'.get? s.heap.objs.size=some { cls:=.type "tuple",data:=.seq #[.int i s.toks,x] }→h'.objs.size=s.heap.objs.size + 1 →
   (∀ b o,b≠e→b≠it→s.heap.get? b=some o→h'.get? b=some o)→Q (some (.ref s.heap.objs.size)) { s with heap:=h',toks:=s.toks + 1 }):k_ (p_ prog w) A (Kw (.ref e)) Q E s:=by
 obtain ⟨hp,g,d,tk,os⟩:=s
 have ty:Jt ⟨hp,g,d,tk,os⟩ (.ref e) "enumerate":=⟨_,ge,rfl⟩
 unfold Kw; refine b_ (Jg (HJ (name:=a_ "__next__") ty Ky (HS Ky ty Nj ?_ (M1 _))))
 show k_ _ _ (Pp (.ref e) 2 >>= _) _ _ _; refine b_ (IL ge rfl (x:=.ref it) rfl ?_)
 refine b_ (oX gi gt gx fun hA iA sA=>?_)
 have sA':Ir it hp hA:=sA
 have gA:Ni hA e it i old:=(sA'.2 e ne).trans ge
 show k_ _ _ (Pp (.ref e) 3 >>= _) _ _ ⟨hA,g,d,tk,os⟩; refine b_ (IL gA rfl (x:=IT i) rfl ?_)
 show k_ _ _ (Pp (.ref e) 4 >>= _) _ _ ⟨hA,g,d,tk,os⟩; refine b_ (IL gA rfl (x:=.none) rfl ?_)
 show k_ _ _ (mkInt i >>= _) _ _ ⟨hA,g,d,tk,os⟩; refine b_ (wpAny_mkInt ?_)
 show k_ _ _ (setField (.ref e) 3 (IT ((i:Int) + 1)) >>= _) _ _ ⟨hA,g,d,tk + 1,os⟩; refine b_ (HW gA (by simp) fun hB gB sB=>?_)
 have sB':Ir e hA hB:=sB
 have gB':Ni hB e it ((i:Int) + 1) old:=gB
 show k_ _ _ (setField (.ref e) 4 .none >>= _) _ _ ⟨hB,g,d,tk + 1,os⟩; refine b_ (HW gB' (by simp) fun hC gC sC=>?_)
 have sC':Ir e hB hC:=sC
 have gC':Ni hC e it ((i:Int) + 1) old:=gC
 show k_ _ _ (Ot [.int i tk,x] >>= _) _ _ ⟨hC,g,d,tk + 1,os⟩; refine b_ (wpAny_newTuple ?_)
 obtain ⟨hD,eD⟩:∃ hD,hD=hC.push { cls:=.type "tuple",data:=.seq #[.int i tk,x] }:=⟨_,rfl⟩
 have gD:Ni hD e it ((i:Int) + 1) old:=by rw [eD]; exact e_ _ gC'
 have zC:hC.objs.size=hp.objs.size:=by rw [sC'.1,sB'.1,sA'.1]
 have le:e < hp.objs.size:=o_ ge
 have tD:hD.get? hp.objs.size=some { cls:=.type "tuple",data:=.seq #[.int i tk,x] }:=by rw [eD,← zC]; exact i_ _ rfl
 have zD:hD.objs.size=hp.objs.size + 1:=by rw [eD,F_,zC]
 have kD:∀ b o,b≠e→b≠it→hp.get? b=some o→hD.get? b=some o:=fun b o be bi gb=>by rw [eD]; exact e_ _ (sC'.extBut b o be (sB'.extBut b o be (sA'.extBut b o bi gb)))
 have iD:hD.IsTupleIter it l (i + 1):=by rw [eD]; exact ((iA.extBut sB'.extBut ne.symm).extBut sC'.extBut ne.symm).at fun o go=>e_ _ go
 show k_ _ _ (K5 (.ref e) >>= _) _ _ ⟨hC.push { cls:=.type "tuple",data:=.seq #[.int i tk,x] },g,d,tk + 1,os⟩
 rw [← eD,zC]; refine b_ ?_; unfold K5; refine b_ (IL gD rfl (x:=.none) rfl (d_ ?_)); simp only [if_true]
 refine b_ (JP (b_ (IL gD rfl (x:=old) rfl (b_ (HW gD (by simp) fun hE gE sE=>?_)))))
 have sE':Ir e hD hE:=sE
 have gE':Ni hE e it ((i:Int) + 1) x:=gE
 show k_ _ _ (KY (.ref e) (.ref hp.objs.size) >>= _) _ _ ⟨hE,g,d,tk + 1,os⟩; refine b_ ?_; unfold KY
 refine b_ (HW gE' (by simp) fun hF gF sF=>?_)
 have sF':Ir e hE hF:=sF
 have gF':IsEnumOut hF e it ((i:Int) + 1) x hp.objs.size:=gF
 refine HW gF' (by simp) fun hG gG sG=>?_
 have sG':Ir e hF hG:=sG
 have up:∀ b o,b≠e→hD.get? b=some o→hG.get? b=some o:=fun b o be gb=>sG'.extBut b o be (sF'.extBut b o be (sE'.extBut b o be gb))
 refine b_ (wpAny_letGo (d_ ⟨_,rfl,d_ (q hG gG (iD.at fun o go=>up _ o ne.symm go) (up _ _ (Kn le) tD) (by rw [sG'.1,sF'.1,sE'.1,zD]) fun b o be bi gb=>up b o be (kD b o be bi gb))⟩))
theorem xU {e it l:Addr} {i:Nat} {vs:Array Value} {old:Value} {Q:Option Value→c_→Prop} (hh:A.handled=none) (ge:Ni s.heap e it i old) (gi:s.heap.IsTupleIter it l i) (gt:s.heap.IsTuple l vs) (gx:vs[i]?=none)
 (q:∀ h',NI it s.heap h'→Q none { s with heap:=h' }):k_ (p_ prog w) A (Kw (.ref e)) Q E s:=by
 have ty:s.TypeIs (.ref e) "enumerate":=⟨_,ge,rfl⟩
 unfold Kw; refine b_ (Jg (HJ (name:=a_ "__next__") ty Ky (HS Ky ty Nj ?_ (M1 _))))
 show k_ _ _ (Pp (.ref e) 2 >>= _) _ _ _; refine b_ (IL ge rfl (x:=.ref it) rfl ?_)
 refine b_ (rg hh gi gt gx fun h' y ke ky=>?_)
 obtain ⟨o,go,co⟩:=ky
 exact b_ (LL (T:="StopIteration") (b:=true) ⟨o,go,co⟩ NE (d_ (q _ ke)))
end
theorem xV (l:Addr) (vs:Array Value) :
 Meets (Jw.«enumerate.__new__» ⟨[.type "enumerate",.ref l],[]⟩) (fun _ R s=>s.heap.IsTuple l vs∧R (.ok (.ret (.ref (zq1 s.heap l).objs.size))) { s with heap:=(zq1 s.heap l).push { cls:=.type "enumerate",data:=.fields #[.none,.bool false,.ref s.heap.objs.size,IT 0,.none,.none] } }) :=
 .of_wp fun prog w A R s h=>by
  obtain ⟨hp,g,d,tk,os⟩:=s; obtain ⟨m1,h⟩:=h
  have hsub:=sub_enumerate
  have t1:Heap.IsTuple (Shared.heap ⟨hp,g,d,tk,os⟩) l vs:=m1
  wp_walk
  refine wpAny_stack_any fun st=>d_ ?_
  split
  · rename_i c _ _ _ _ _
    cases (c == m_ "enumerate") <;> (wp_walk using La t1; exact ⟨_,rfl,h⟩)
  · wp_walk using La t1; exact ⟨_,rfl,h⟩
section
variable {prog:Program} {w:D_} {A:w_} {E:Value→c_→Prop} {s:c_}
theorem uT {l:Addr} {vs:Array Value} {Q:Value→c_→Prop} (m1:s.heap.IsTuple l vs)
 (q:∀ h',Ni h' (s.heap.objs.size + 1) s.heap.objs.size 0 .none→h'.IsTupleIter s.heap.objs.size l 0→(∀ b o,s.heap.get? b=some o→h'.get? b=some o)→Q (.ref (s.heap.objs.size + 1)) { s with heap:=h' }) :
 k_ (p_ prog w) A (call (.type "enumerate") [.ref l]) Q E s:=by
 have n1:(zq1 s.heap l).objs.size=s.heap.objs.size + 1:=F_ ..
 refine callType_new F.called_enumerate (by decide) (F.typeCall_enumerate_1 _) (F.newCall_enumerate_1 _) (fun obj=>F.args_object_init_2 obj _) F.entry_enumerate_new (xV l vs) ⟨m1,?_⟩
 have g2:((zq1 s.heap l).push { cls:=.type "enumerate",data:=.fields #[.none,.bool false,.ref s.heap.objs.size,IT 0,.none,.none] }).get? (zq1 s.heap l).objs.size=some _:=i_ _ rfl
 have g1:((zq1 s.heap l).push { cls:=.type "enumerate",data:=.fields #[.none,.bool false,.ref s.heap.objs.size,IT 0,.none,.none] }).get? s.heap.objs.size=some _:=e_ _ (i_ _ rfl)
 show _∧_
 rw [n1] at g2 ⊢
 exact ⟨⟨_,g2,rfl⟩,q _ g2 ⟨_,g1,rfl,rfl⟩ fun c o g=>e_ _ (e_ _ g)⟩
end
def ItE (K:ck) (a:Addr):It :=
 ⟨fun i H=>∃ xs x,H a=some (.tup xs)∧xs[i]?=some x,fun i H v H'=>∃ p x,v=.ref p∧H p=none∧H'=upd H p (.tup [.int i,x])∧∀ xs,H a=some (.tup xs)→xs[i]?=some x,fun i H=>∃ xs,H a=some (.tup xs)∧xs.length≤i⟩
theorem uU {P:Program} {w:D_} {K:ck} {es:List Expr} {k:Nat} {pos:Pos} (a e it:Addr) (hne:e≠it):tQ P w K (.Tuple es k pos) (ItE K a) [e,it] e (fun i h=>(∃ old,Ni h e it i old)∧h.IsTupleIter it a i) where
 mem:=by simp
 obj:=fun i h st b hb=>by
  obtain ⟨⟨old,he⟩,o,e2,c,d⟩:=st
  have hb':b=e∨b=it:=by simpa using hb
  rcases hb' with rfl | rfl
  · exact ⟨_,he,fun v z=>by cases z⟩
  · exact ⟨o,e2,fun v z=>by rw [d] at z; cases z⟩
 keep:=fun i h h' st kk=>by
  obtain ⟨⟨old,he⟩,st2⟩:=st
  exact ⟨⟨old,kk e (by simp) _ he⟩,st2.at fun o ee=>kk it (by simp) o ee⟩
 item:=by
  intro X hP hw hK hc i pins s σ H E I hf st hg
  subst hP hw hK
  obtain ⟨xs,x,hq,hx⟩:=hg
  obtain ⟨its,rv,p,hz⟩:=I.tuple (SqT.of hq)
  obtain ⟨u,hu,ru⟩:=rv.get hx
  obtain ⟨⟨old,he⟩,st2⟩:=st
  obtain ⟨f0,f1,f2,f3,f4,f5⟩:=hf e (by simp)
  obtain ⟨g0,g1,g2,g3,g4,g5⟩:=hf it (by simp)
  refine uS he st2 (show s.heap.IsTuple a its.toArray from p) (x:=u) (by simpa using hu) hne fun h' eo st' tp sz kk=>?_
  refine ⟨_,rfl,Mi eo fun h2 he2 sb2=>?_⟩
  have hp:H s.heap.objs.size=none:=I.hok.fresh (n_ _)
  have elt:e < s.heap.objs.size:=o_ he
  have k2:∀ b o,b ∉ [e,it]→s.heap.get? b=some o→h2.get? b=some o:=fun b o hb q=>sb2.extBut b o (fun z=>hb (by simp [z])) (kk b o (fun z=>hb (by simp [z])) (fun z=>hb (by simp [z])) q)
  have tp2:h2.get? s.heap.objs.size=some { cls:=.type "tuple",data:=.seq #[.int i s.toks,u] }:=sb2.extBut _ _ (Kn elt) tp
  have I1:Inv X pins σ (upd H s.heap.objs.size (.tup [.int i,x])) { s with heap:=h2,toks:=s.toks + 1 }:=by
   have nt:∀ b u,H b=some u→b ∉ [e,it]:=fun b u q z=>by
    have z':b=e∨b=it:=by simpa using z
    rcases z' with rfl | rfl
    · rw [f0] at q; cases q
    · rw [g0] at q; cases q
   refine I.step (g':=s.gens) (d':=s.drawn) (ch:=[e,it]) (fun b hb=>?_) (fun b o _ _ hcb q _=>k2 b o hcb q) (fun b o _ _ hcb q _=>⟨o.slots,k2 b o hcb q⟩) (fun b o hcb q n=>?_) (fun b o hcb q=>⟨o,k2 b o hcb q⟩)
    (fun b ys q=>by rw [al (am q hp)]; exact q) (fun b o ys q=>by rw [al (am q hp)]; exact q) (fun b ps q=>⟨#[],by rw [al (am q hp),q]; simp⟩) (fun m hm=>?_) (fun b u2 q=>?_) I.bare
   · have z':b=e∨b=it:=by simpa using hb
     rcases z' with rfl | rfl
     · exact ⟨f3,f1,f4,f5⟩
     · exact ⟨g3,g1,g4,g5⟩
   · rw [al (t_ (o_ q))]; exact n
   · obtain ⟨o,es',ep,ho,r⟩:=hm
     exact ⟨o,es',ep,k2 _ o (fun z=>by
      have z':X.env.locals=e∨X.env.locals=it:=by simpa using z
      rcases z' with z' | z'
      · exact f1 z'.symm
      · exact g1 z'.symm) ho,r⟩
   · by_cases hb:b=s.heap.objs.size
     · subst hb
       rw [ak] at q
       cases q
       exact ⟨by show 2≤sizeLine; decide,[.int i s.toks,u],.cons ⟨_,rfl⟩ (.cons ru .nil),⟨_,tp2,rfl,_,rfl⟩⟩
     · rw [al hb] at q
       refine (I.hok b u2 q).stay (fun c v hcv qq=>k2 c v ?_ qq) (fun c qq=>by rw [al (am qq hp)]; exact qq) fun c ys qq=>by rw [al (am qq hp)]; exact qq
       rcases hcv with rfl | hcv
       · exact nt _ _ q
       · exact nt _ _ hcv
  refine ⟨.ref s.heap.objs.size,_,I1,rfl,⟨_,x,rfl,hp,rfl,fun zs hy=>by rw [hq] at hy; cases hy; exact hx⟩,⟨⟨_,by simpa using he2⟩,?_⟩,fun b hb=>?_⟩
  · exact st'.at fun o q=>sb2.extBut _ _ (IG hne) q
  · have z':b=e∨b=it:=by simpa using hb
    rcases z' with rfl | rfl
    · rw [al (t_ elt)]; exact f0
    · obtain ⟨o,q,_⟩:=id st2
      rw [al (t_ (o_ q))]; exact g0
 done:=by
  intro X hP hw hK hc i pins s σ H E I hf st hg
  subst hP hw hK
  obtain ⟨xs,hq,hx⟩:=hg
  obtain ⟨its,rv,p,hz⟩:=I.tuple (SqT.of hq)
  obtain ⟨⟨old,he⟩,st2⟩:=st
  obtain ⟨g0,g1,g2,g3,g4,g5⟩:=hf it (by simp)
  have hl:=rv.length
  exact xU (I.ok.hd hc) he st2 (show s.heap.IsTuple a its.toArray from p) (by simp; omega) fun h' eb=>⟨rfl,I.turned (t':=s.toks) (fun b o hb e=>eb b o hb e) g0 g1 g3 g4 g5⟩
 self:=fun _ _ _ _ _ st h=>by
  obtain ⟨⟨old,he⟩,_⟩:=st
  exact Lp he h
theorem By {K:ck} {H:Hp} {a:Addr} {xs:List V} {ds:List Dv} (h:H a=some (.tup xs)) (r:Reps K H ds xs):WkG K (ItE K a) (c8 0 ds) H where
 go:=fun i H' e hi=>by
  rw [bR] at hi
  have hx:i < xs.length:=by rw [r.length]; exact hi
  exact ⟨xs,xs[i],e _ _ h,by simp [hx]⟩
 stop:=fun H' e=>⟨xs,e _ _ h,by rw [r.length,bR]; exact n_ _⟩
 yld:=fun i H' v H2 e hi y=>by
  obtain ⟨p,x,rfl,hp,rfl,y⟩:=y
  obtain ⟨d,h1,h2⟩:=Reps.get (Reps.mono e _ _ r) (y xs (e _ _ h))
  have q:=gW ds 0 i d h1
  rw [Jr] at q
  exact ⟨aq hp _,_,q,⟨p,_,rfl,ak,⟨.int i,[x],rfl,rfl,x,[],rfl,Rep.mono (aq hp _) _ _ h2,rfl⟩⟩⟩
def jF:List Dv→Option (Rs (List Dv))
 | [.tup ds]=>some (.ok (c8 0 ds))
 | _=>none
theorem xW {X:Cx} {es:List Expr} {k:Nat} {pt p pos:Pos} {l:Expr} {ga:FnA} (hg:Gl X "enumerate") (hm:X.mg "enumerate"=none) (ha:FA X [l] ga) (hs:f_ [l] X.env=[(false,eval l X.env)]:=by kernel_rfl):FIG X (.Tuple es k pt) (.Call (.Name "enumerate" p) [l] [] pos) (fun ρ=>bnd (ga ρ) jF):=by
 constructor
 intro pins s σ H R I h
 obtain ⟨ρ,E,o⟩:=h
 have key:OutA X H (ga ρ) fun vs H'=>∃ ds,Reps X.K H' ds vs∧OutG X H' (jF ds) R:=by
  match hf:ga ρ,o with
  | some (.exc c),o=>exact o
  | some (.ok ds),o=>exact fun vs H' e rs=>⟨ds,rs,OutG.mono e o⟩
 refine Call_ (dh I hg hm (show Iq "enumerate"=some (.type "enumerate") by decide +kernel) (H_ (thn (ha.h pos pins s σ H _ I ⟨ρ,E,key⟩) fun us s1 ⟨vs,H1,I1,r1,ds,rs,q1⟩=>?_) hs rfl))
 unfold jF at q1
 split at q1
 · rename_i xs
   obtain ⟨v,rfl,rv⟩:=bD rs
   obtain ⟨a,ws,rfl,h1,h2⟩:=rv.tupE
   obtain ⟨u,rfl,ru⟩:=cT r1
   cases ru
   obtain ⟨its,rv',pl,hz⟩:=I1.tuple (SqT.of h1)
   refine uT (show s1.heap.IsTuple a its.toArray from pl) fun h' he hit kk=>?_
   refine Lp he ?_
   have I2:Inv X pins σ H1 { s1 with heap:=h' }:=I1.kept (t':=s1.toks) kk
   refine ⟨s1.heap.objs.size + 1,[s1.heap.objs.size + 1,s1.heap.objs.size],_,ItE X.K a,H1,rfl,I2,uU a _ _ (O0 _),⟨⟨_,he⟩,hit⟩,fun b hb=>?_,q1 _ H1 (.refl H1) (By h1 h2)⟩
   have hb':b=s1.heap.objs.size + 1∨b=s1.heap.objs.size:=by simpa using hb
   rcases hb' with rfl | rfl
   · exact I1.fpOk (KQ _) (I1.hok.fresh (KQ _))
   · exact I1.fpOk (n_ _) (I1.hok.fresh (n_ _))
 · exact q1.elim
theorem v7 {tst:Option FnB} {elt:FnE} {cap:Ev}:∀ ds:List Dv,qm tst elt cap ds=fL (gN 0) tst elt cap ds
 | []=>rfl
 | d :: ds=>by
  unfold qm fL
  rw [v7 ds]
  rfl
theorem xX (cs:List (Str×Nat)) (src:FnA) (tst:Option FnB) (fe:FnE):bh cs src tst fe=aG 1 cs src (gN 0) tst fe:=by
 funext ρ
 show bnd (src ρ) _=bnd (src ρ) _
 congr 1
 funext ds
 rw [v7]
 rfl
theorem rh {X:Cx} {st:Stmt} {i:Nat} {fc:FnE} (h:PS X st (tC X i fc)) (hl:∀ ρ d,fc ρ=some (.ok d)→∃ ys,d=.lst ys):FS X st (bn i fc):=⟨fun pins s σ H D I ⟨ρ,E,o⟩=>by
 refine h pins s σ H D I ⟨ρ,E,?_⟩
 unfold bn at o
 match hf:fc ρ with
 | none=>rw [hf] at o; exact o.elim
 | some (.exc c)=>rw [hf] at o; exact o
 | some (.ok d) =>
  rw [hf] at o
  obtain ⟨ys,rfl⟩:=hl ρ d hf
  exact ⟨ys,rfl,fun H5 p vs e5 hp rs=>o _ _ (e5.trans (aq hp _)) ((E.mono (e5.trans (aq hp _))).set ⟨p,vs,rfl,ak,Reps.mono (aq hp _) _ _ rs⟩)⟩⟩
end FD
namespace ST
open PySem PySem.SetTable PyProof.Rows
abbrev byT (w:D_):Bool:=w.params.followText "set-order"
def SetS (prog:Program) (w:D_) (h:Heap) (S:Addr) (ks:List Str):Prop :=
 ∃ o es ep t,h.get? S=some o∧o.ExactSet∧o.data=.set es ep t∧t.fits es.size=true∧ks.length≤60∧t.led=(!byT w)∧(es.size≠0→t.plain=false)∧ElemsOf (HY prog w) es.toList∧(∀ e∈es.toList,∃ x t,e.2=.str x t)∧(es.toList.map fun e=>Pd e.2).Perm ks
theorem Bz (t:SetTable) (n:Nat):(t.orStandIn n).led=t.led∧((t.orStandIn n).plain=t.plain∨(t.orStandIn n).plain=false):=by
 unfold SetTable.orStandIn
 split
 · exact ⟨rfl,.inl rfl⟩
 · exact ⟨rfl,.inr rfl⟩
theorem xY (t:SetTable) (es:Array (Int×Value)) (h:Int) (x:Value):(layNew t es h x).2.1.led=t.led:=by
 unfold layNew
 split
 · exact (Bz _ _).1
 · rfl
theorem uV {m finger moves:Nat} {led plain:Bool} {hs:Array Int} {t:SetTable} {order:Array Nat} (e:laid m finger moves led plain hs=some (t,order)):t.led=led∧t.plain=plain:=by
 unfold laid at e
 cases hc:layClean m hs with
 | none=>rw [hc] at e; cases e
 | some o=>rw [hc] at e; cases e; exact ⟨rfl,rfl⟩
theorem ri (t:SetTable) (es:Array (Int×Value)) (n:Nat) (hp:t.plain=false):(MR t es n).2.1.led=t.led∧(MR t es n).2.1.plain=false:=by
 unfold MR
 split
 · rename_i t' order e
   obtain ⟨h1,h2⟩:=uV e
   dsimp only
   split
   · exact ⟨h1,h2.trans hp⟩
   · exact ⟨rfl,rfl⟩
 · exact ⟨rfl,rfl⟩
section
variable {prog:Program} {w:D_} {A:w_} {E:Value→c_→Prop} {s:c_}
theorem rj {h:Heap} {S:Addr} {o:Obj} {es:Array (Int×Value)} {ep:Nat} {t:SetTable} (ho:h.get? S=some o) (hex:o.ExactSet) (hd:o.data=.set es ep t) {es':Array (Int×Value)} {t':SetTable} {ks:List Str} (hf:t'.fits es'.size=true) (hk:ks.length≤60) (hl:t'.led=(!byT w)) (hp:t'.plain=false)
 (hel:ElemsOf (HY prog w) es'.toList) (hs:∀ e∈es'.toList,∃ x t,e.2=.str x t) (hm:(es'.toList.map fun e=>Pd e.2).Perm ks):SetS prog w (h.update S (JS es' t')) S ks:=by
 have hg:=Je (JS es' t') ho (by rw [MS es' t' hd]; rfl)
 rw [MS es' t' hd] at hg
 exact ⟨_,es',ep + 1,t',hg,hex,rfl,hf,hk,hl,fun _=>hp,hel,hs,hm⟩
theorem kK {l l':List (Int×Value)} (p:l'.Perm l) (hs:∀ e∈l,∃ x t,e.2=IB x t) {ks:List Str} (hm:(l.map fun e=>Pd e.2).Perm ks):(∀ e∈l',∃ x t,e.2=IB x t)∧(l'.map fun e=>Pd e.2).Perm ks :=
 ⟨fun e he=>hs e (p.mem_iff.mp he),(p.map _).trans hm⟩
theorem v8 {es:Array (Int×Value)} {ks:List Str} {k:Str} (hs:∀ e∈es.toList,∃ x t,e.2=.str x t) (hm:(es.toList.map fun e=>Pd e.2).Perm ks):(∃ e∈es.toList,(HY prog w).is k e.2=true)↔k∈ks:=by
 rw [← hm.mem_iff,Iv]
 constructor
 · rintro ⟨e,he,hk⟩
   obtain ⟨x,t,ex⟩:=hs e he
   refine ⟨e,he,?_⟩
   rw [ex] at hk ⊢
   have:(x == k)=true:=by simpa [HY,LP] using hk
   show x=k
   simpa using this
 · rintro ⟨e,he,hk⟩
   obtain ⟨x,t,ex⟩:=hs e he
   refine ⟨e,he,?_⟩
   rw [ex] at hk ⊢
   have:x=k:=hk
   rw [this]
   simp [HY,LP]
theorem GO {S:Addr} {ks:List Str} {k:Str} {tk:Tok} {Q:Bool→c_→Prop} (hS:SetS prog w s.heap S ks) (hn:ks.length < 60)
 (h:∀ b h',Ir S s.heap h'→SetS prog w h' S (addK ks k)→Q b { s with heap:=h' }):k_ (p_ prog w) A (Nb S (.str k tk) ((HY prog w).hash k)) Q E s:=by
 obtain ⟨o,es,ep,t,ho,hex,hd,hf,hk60,hl,hp,hel,hs,hm⟩:=id hS
 have hkey:(HY prog w).is k (.str k tk)=true:=strKind_is prog w k tk
 have hsc:(IB k tk).scannable=true:=rfl
 have hlen:es.size=ks.length:=by have:=hm.length_eq; simpa using this
 have hb:es.size < scanBound:=by rw [hlen]; unfold scanBound; omega
 unfold Nb NA
 refine HX (b_ (HM ho hd hf ?_))
 dsimp only
 rw [byScan_of hsc hb hel,if_pos rfl]; unfold setAddByScan
 refine b_ (b_ (JP (b_ (wpAny_setScan_of hkey ho hd hf hel ?_))))
 have gv:∀ (b:Bool) {s₁:c_} {Q':Unit→c_→Prop},Q' () s₁→k_ (p_ prog w) A (match b with | true=>rule "set.scan.the-table-gave-way" | false=>pure ()) Q' E s₁:=fun b _ _ z=>by
  cases b
  · exact d_ z
  · exact JP z
 cases hr:List.findIdx? (fun e=>(HY prog w).is k e.2) es.toList with
 | some j =>
  obtain ⟨hj,pj,_⟩:=List.findIdx?_eq_some_iff_getElem.mp hr
  have hin:k∈ks:=(v8 (prog:=prog) (w:=w) hs hm).mp ⟨es.toList[j],Ju hj,pj⟩
  dsimp only
  refine d_ (d_ ?_)
  have e:s={ s with heap:=s.heap }:=by cases s; rfl
  rw [e]
  refine h _ s.heap (Heap.SameBut.refl S s.heap) ?_
  unfold addK
  rw [if_pos hin]
  exact hS
 | none =>
  have hout:k ∉ ks:=fun z=>by
   obtain ⟨e,he,q⟩:=(v8 (prog:=prog) (w:=w) hs hm).mpr z
   have:=List.findIdx?_eq_none_iff.mp hr e he
   rw [q] at this
   cases this
  dsimp only
  have hperm:=layNew_perm t es ((HY prog w).hash k) (.str k tk)
  have hfits:=layNew_fits t es ((HY prog w).hash k) (.str k tk)
  have hled:=xY t es ((HY prog w).hash k) (.str k tk)
  generalize layNew t es ((HY prog w).hash k) (.str k tk)=L at hperm hfits hled ⊢
  obtain ⟨es1,t1,wd,gave⟩:=L
  dsimp only at hperm hfits hled ⊢
  rw [MK] at hperm
  have el1:ElemsOf (HY prog w) es1.toList:=(hel.push hkey hsc).perm hperm
  have eK:addK ks k=k :: ks:=by unfold addK; rw [if_neg hout]
  obtain ⟨s1,m1⟩:=kK hperm (ks:=k :: ks) (fun e he=>by
   rcases HC.mp he with he | he
   · exact hs e he
   · rw [Ih.mp he]; exact ⟨k,tk,rfl⟩) (by
   rw [K_]
   exact (hm.append_right _).trans (Mw k ks))
  have z1:es1.size=ks.length + 1:=by have:=m1.length_eq; simpa using this
  have hb1:es1.size < scanBound:=by rw [z1]; unfold scanBound; omega
  refine b_ (gv _ ?_)
  have tail:∀ t2:SetTable,t2.fits es1.size=true→t2.led=(!byT w)→t2.plain=false→k_ (p_ prog w) A (do
   Pn S es1 t2
   if (!wd && t2.tooFull)=true then do
    (match (MR t2 es1 (IY es1.size)).2.2 with | true=>rule "set.scan.the-table-gave-way" | false=>pure ())
    Pn S (MR t2 es1 (IY es1.size)).1 (MR t2 es1 (IY es1.size)).2.1
    pure (some true)
    else pure (some true)) (fun a s'=>k_ (p_ prog w) A (match a with | some added=>pure added | none=>NA S (.str k tk) ((HY prog w).hash k) 99999) Q E s') E s:=by
   intro t2 f2 l2 p2
   refine b_ (Lm ho hd ?_ (fits_of_scanBound hb1))
   have S1:SetS prog w (s.heap.update S (JS es1 t2)) S (addK ks k):=by
    rw [eK]
    exact rj ho hex hd f2 (by simp; omega) l2 p2 el1 s1 m1
   have sb1:=Jo s.heap S (JS es1 t2)
   split
   · have hp2:=relayAll_perm t2 es1 (IY es1.size)
     have hf2:=relayAll_fits t2 es1 (IY es1.size)
     obtain ⟨q1,q2⟩:=ri t2 es1 (IY es1.size) p2
     generalize MR t2 es1 (IY es1.size)=L2 at hp2 hf2 q1 q2 ⊢
     obtain ⟨es2,t3,g2⟩:=L2
     dsimp only at hp2 hf2 q1 q2 ⊢
     obtain ⟨s2,m2⟩:=kK hp2 s1 m1
     have z2:es2.size=es1.size:=by rw [← Ib,hp2.length_eq,Ib]
     have ho1:=Je (JS es1 t2) ho (by rw [MS es1 t2 hd]; rfl)
     rw [MS es1 t2 hd] at ho1
     refine b_ (gv _ (b_ (Lm ho1 rfl ?_ (fits_of_scanBound (by rw [z2]; exact hb1)))))
     refine d_ (d_ (h _ _ (sb1.trans (Jo _ S _)) ?_))
     rw [eK]
     exact rj ho1 hex rfl hf2 (by simp; omega) (q1.trans l2) q2 (el1.perm hp2) s2 m2
   · exact d_ (d_ (h _ _ sb1 S1))
  split
  · rename_i hpl
    refine b_ ?_
    rw [hashByValue_scannable 8 hsc]
    refine d_ ?_
    exact tail _ (SetTable.fits_plain_off hfits) (hled.trans hl) rfl
  · rename_i hpl
    refine b_ (d_ ?_)
    exact tail _ hfits (hled.trans hl) (by simpa using hpl)
end
section
variable {prog:Program} {w:D_} {A:w_} {R:Ng→c_→Prop} {I:Addr} {fp wr:List Addr} {G:Array Mn→Array Mn→Prop} {n:Nat} {P:Nat→Value→Prop} {St:Nat→c_→Prop}
theorem SetS.moved {h h':Heap} {S:Addr} {ks:List Str} (x:SetS prog w h S ks) (hS:∀ o,h.get? S=some o→h'.get? S=some o):SetS prog w h' S ks:=by
 obtain ⟨o,es,ep,t,ho,r⟩:=x
 exact ⟨o,es,ep,t,hS _ ho,r⟩
theorem BA (W:WalksS prog w A.in1 I fp wr G n P St) (S:Addr) (hSf:S ∉ fp) (key:Nat→Str) (hval:∀ i v,P i v→∃ tk,v=.str (key i) tk) (hn:n≤59) :
 ∀ (k i:Nat) (s:c_),n - i=k→i≤n→St i s→SetS prog w s.heap S (ddk ((h_ i).map key)) →
  (∀ s',Moved (S :: wr) G s s'→SetS prog w s'.heap S (ddk ((h_ n).map key))→R (.ok (.ret .none)) s') →
  Ki (p_ prog w) A (.builtin "set.update.loop" ⟨[.ref S,.ref I],[]⟩) R s:=by
 have hSw:S ∉ wr:=fun h=>hSf (W.sub _ h)
 have hsub:∀ b∈wr,b∈S :: wr:=fun b hb=>l_ _ hb
 intro k
 induction k with
 | zero =>
  intro i s hk hi hst hS hR
  have hin:i=n:=by omega
  subst hin
  refine Ic Ke ?_
  rw [IN IP _]
  show k_ _ A.in1 (Kw (.ref I) >>= _) _ _ s
  refine b_ (W.done s _ _ hst fun s' hm=>?_)
  show k_ _ A.in1 (ret E_) _ _ s'
  exact d_ (hR s' (hm.mono hsub) (hS.moved fun o ho=>hm.heap S _ hSw ho))
 | succ k ih =>
  intro i s hk hi hst hS hR
  have hlt:i < n:=by omega
  refine Ic Ke ?_
  rw [IN IP _]
  show k_ _ A.in1 (Kw (.ref I) >>= _) _ _ s
  refine b_ (W.item i s _ _ hlt hst fun v s' hP hst' hm=>?_)
  obtain ⟨tk,rfl⟩:=hval i v hP
  have hS':SetS prog w s'.heap S (ddk ((h_ i).map key)):=hS.moved fun o ho=>hm.heap S _ hSw ho
  show k_ _ A.in1 (Pl [IB (key i) tk] (setAdd S (.str (key i) tk)) >>= _) _ _ s'
  refine b_ (HX ?_)
  unfold setAdd
  refine HX ?_
  refine b_ ((HY prog w).pyHash (strKind_is prog w (key i) tk) ?_)
  have estep:ddk ((h_ (i + 1)).map key)=addK (ddk ((h_ i).map key)) (key i):=by
   unfold ddk
   rw [Np,K_,List.foldl_append]
   rfl
  have hle:(ddk ((h_ i).map key)).length≤i:=by
   have:=ddk_le ((h_ i).map key)
   simpa using this
  refine GO (s:={ s' with toks:=s'.toks + 1 }) hS' (by omega) fun bb h' hsb hS2=>?_
  rw [← estep] at hS2
  refine d_ ⟨LO IP _,ih (i + 1) _ (by omega) hlt (W.frame _ s' _ _ hst' (by simp) fun b hb o e=>?_) hS2 fun s'' hm'' hS''=>?_⟩
  · rw [hsb.2 b (fun h:b=S=>hSf (by rw [← h]; exact hb))]; exact e
  · refine hR s'' (Moved.trans W.gtrans ((hm.mono hsub).then_heap (by simp) fun b o hb e=>?_) hm'') hS''
    rw [hsb.2 b (fun h:b=S=>hb (by rw [h]; exact g_))]; exact e
end
section
variable {prog:Program} {w:D_} {A:w_} {E:Value→c_→Prop} {s:c_}
theorem nA {h:Heap} {S:Addr} (e:h.get? S=some (du (!byT w))):SetS prog w h S [] :=
 ⟨_,#[],0,_,e,⟨rfl,rfl,rfl⟩,rfl,rfl,by simp,rfl,fun z=>absurd rfl z,fun e he=>by simp at he,fun e he=>by simp at he,.refl _⟩
theorem rk (a:Value) {Q₁:Value→c_→Prop} (h:Q₁ (.ref s.heap.objs.size) { s with heap:=s.heap.push (du (!byT w)) }):Ki (p_ prog w) A (.call (.builtin "set.__new__") ⟨[.type "set",a],[]⟩) (wants Q₁ E) s:=by
 refine L5 ?_; show k_ _ A.in1 (do checkBuiltinCall "set.__new__" ⟨[.type "set",a],[]⟩; Pu (.builtin "set.__new__" ⟨[.type "set",a],[]⟩)) _ _ s
 refine b_ (JJ (F.newCall_set_1 a) (d_ ⟨LO F.plain_set_new _,Ic F.entry_set_new ?_⟩)); rw [IN F.plain_set_new _]
 unfold Jw.«set.__new__» Px; have hsub:=sub_set_self; obtain ⟨hp,g,d,tk,os⟩:=s
 dsimp only; wp_walk; refine J0 (d_ ?_)
 dsimp only; simp only [newObj]; exact b_ (wpAny_alloc (d_ (d_ h)))
theorem xZ {l:Addr} {items:Array Value} {key:Nat→Str} {R:Ng→c_→Prop} (hh:A.handled=none) (hl:s.heap.IsList l items)
 (hk:∀ (i:Nat) (v:Value),items[i]?=some v→∃ tk,v=IB (key i) tk) (hn:items.size≤59)
 (hR:∀ (h':Heap) (tk:Nat),SetS prog w h' s.heap.objs.size (ddk ((h_ items.size).map key))→(∀ b o,b < s.heap.objs.size→s.heap.get? b=some o→h'.get? b=some o)→R (.ok (.ret .none)) { s with heap:=h',toks:=tk }) :
 Ki (p_ prog w) A (.call (.builtin "set.__init__") ⟨[.ref s.heap.objs.size,.ref l],[]⟩) R { s with heap:=s.heap.push (du (!byT w)) }:=by
 have hS:(s.heap.push (du (!byT w))).get? s.heap.objs.size=some (du (!byT w)):=i_ _ rfl
 have hT:Jt { s with heap:=s.heap.push (du (!byT w)) } (.ref s.heap.objs.size) "set":=⟨_,hS,rfl⟩
 refine JK Hs.init.plain M0 (MU hT ?_)
 obtain ⟨ol,hol,hcl,nl,hdl⟩:=hl
 obtain ⟨ocls,odict,odata,oslots⟩:=ol
 simp only at hcl hdl
 subst hcl; subst hdl
 have hol':(s.heap.push (du (!byT w))).get? l=some { cls:=.type "list",dict:=odict,data:=.seq items nl,slots:=oslots }:=e_ _ hol
 have s1:=F.sub_list_set
 have s2:=NJ
 have s3:(m_ "list" == m_ "dict")=false:=by decide
 have hl1:(s.heap.push (du (!byT w))).IsList l items:=⟨_,hol',rfl,nl,rfl⟩
 unfold Jw.«set.__init__» noKeywords Kr
 generalize hPI:Oc=PI
 wp_walk
 subst hPI
 refine Lo hl1 (b_ (Ln ?_))
 have hlS:l < s.heap.objs.size:=o_ hol
 have hneI:l≠(s.heap.push (du (!byT w))).objs.size:=by rw [F_]; exact t_ (HP hlS)
 have hSf:s.heap.objs.size ∉ [(s.heap.push (du (!byT w))).objs.size,l]:=by
  rw [F_]
  simp only [on,Hn,or_false,not_or]
  exact ⟨t_ (Ij _),Kn hlS⟩
 refine BA ((Pv (by simp [hh]) _ l hneI items).toS) s.heap.objs.size hSf key hk hn (items.size - 0) 0 _ (by omega) (Hq _) ⟨⟨_,i_ _ rfl,rfl,rfl⟩,(hl1.push _)⟩ ?_ ?_
 · exact nA (e_ _ hS)
 · intro s' hm hS'
   obtain ⟨h',g',d',tk',os'⟩:=s'
   have eg:g'=s.gens:=hm.gens
   have ed:d'=s.drawn:=hm.drawn
   have eo:os'=s.os:=hm.os
   subst eg; subst ed; subst eo
   show k_ _ _ _ _ _ _
   refine d_ ?_
   show k_ _ _ (ret E_) _ _ _
   refine d_ (hR h' tk' hS' fun b o hb e=>?_)
   have hb1:b≠s.heap.objs.size:=t_ hb
   have hb2:b≠(s.heap.push (du (!byT w))).objs.size:=by rw [F_]; exact t_ (HP hb)
   exact hm.heap b o (by simp only [on,Hn,or_false,not_or]; exact ⟨hb1,hb2⟩) (e_ _ (e_ _ e))
theorem call_set_L2 {l:Addr} {items:Array Value} {key:Nat→Str} {Q:Value→c_→Prop} (hh:A.handled=none) (hl:s.heap.IsList l items)
 (hk:∀ (i:Nat) (v:Value),items[i]?=some v→∃ tk,v=IB (key i) tk) (hn:items.size≤59)
 (h:∀ (h':Heap) (tk:Nat),SetS prog w h' s.heap.objs.size (ddk ((h_ items.size).map key))→(∀ b o,b < s.heap.objs.size→s.heap.get? b=some o→h'.get? b=some o)→Q (.ref s.heap.objs.size) { s with heap:=h',toks:=tk }) :
 k_ (p_ prog w) A (call (.type "set") [.ref l]) Q E s:=by
 obtain ⟨c,tl,hmro⟩:=Hs.mro
 have hmade:=Hs.made
 have hsub:=Hs.sub
 refine Lb (L5 ?_)
 show k_ _ _ (callAny (.type "set") _) _ _ _
 refine d_ ⟨Km _ (by decide +kernel),Ic ME ?_⟩
 rw [Mv (LH "set" [.ref l] []) rfl]
 have h1:=Hs.notType
 have h2:=Hs.canCreate
 have hct:=MW (.ref l)
 repeat (any_goals (first | assumption | wp_step))
 refine Jh (rk (.ref l) (E:=E) (Q₁:=fun obj s₁=>obj=.ref s.heap.objs.size∧s₁={ s with heap:=s.heap.push (du (!byT w)) }) ⟨rfl,rfl⟩) fun r s₁ hr=>?_
 cases r with
 | error e=>exact hr
 | ok fl =>
  cases fl with
  | ret obj =>
   obtain ⟨rfl,rfl⟩:=hr
   have hT:Jt { s with heap:=s.heap.push (du (!byT w)) } (.ref s.heap.objs.size) "set":=⟨_,i_ _ rfl,rfl⟩
   have hli:=Hs.init.lookup
   have hbi:=Hs.init.bind (.ref s.heap.objs.size)
   repeat (any_goals (first | assumption | wp_step))
   refine Jh (xZ (R:=wants (fun r s₂=>r=.none∧∃ h' tk,s₂={ s with heap:=h',toks:=tk }∧SetS prog w h' s.heap.objs.size (ddk ((h_ items.size).map key)) ∧
    (∀ b o,b < s.heap.objs.size→s.heap.get? b=some o→h'.get? b=some o)) E) (by simp [hh]) hl hk hn fun h' tk q1 q2=>⟨rfl,h',tk,rfl,q1,q2⟩) fun r₂ s₂ hr₂=>?_
   cases r₂ with
   | error e=>exact hr₂
   | ok fl₂ =>
    cases fl₂ with
    | ret r =>
     obtain ⟨rfl,h',tk,rfl,hS',hk'⟩:=hr₂
     repeat (any_goals (first | assumption | wp_step))
     exact h _ _ hS' hk'
    | _=>exact hr₂.elim
  | _=>exact hr.elim
theorem x3 {l:Addr} {items:Array Value} {key:Nat→Str} {R:Ng→c_→Prop} (hh:A.handled=none) (hl:s.heap.IsTuple l items)
 (hk:∀ (i:Nat) (v:Value),items[i]?=some v→∃ tk,v=IB (key i) tk) (hn:items.size≤59)
 (hR:∀ (h':Heap) (tk:Nat),SetS prog w h' s.heap.objs.size (ddk ((h_ items.size).map key))→(∀ b o,b < s.heap.objs.size→s.heap.get? b=some o→h'.get? b=some o)→R (.ok (.ret .none)) { s with heap:=h',toks:=tk }) :
 Ki (p_ prog w) A (.call (.builtin "set.__init__") ⟨[.ref s.heap.objs.size,.ref l],[]⟩) R { s with heap:=s.heap.push (du (!byT w)) }:=by
 have hS:(s.heap.push (du (!byT w))).get? s.heap.objs.size=some (du (!byT w)):=i_ _ rfl
 have hT:Jt { s with heap:=s.heap.push (du (!byT w)) } (.ref s.heap.objs.size) "set":=⟨_,hS,rfl⟩
 refine JK Hs.init.plain M0 (MU hT ?_)
 obtain ⟨ol,hol,hcl,nl,hdl⟩:=hl
 obtain ⟨ocls,odict,odata,oslots⟩:=ol
 simp only at hcl hdl
 subst hcl; subst hdl
 have hol':(s.heap.push (du (!byT w))).get? l=some { cls:=.type "tuple",dict:=odict,data:=.seq items nl,slots:=oslots }:=e_ _ hol
 have s1:=F.sub_tuple_set
 have s2:=F.sub_tuple_frozenset
 have s3:(m_ "tuple" == m_ "dict")=false:=by decide
 have hl1:(s.heap.push (du (!byT w))).IsTuple l items:=⟨_,hol',rfl,nl,rfl⟩
 unfold Jw.«set.__init__» noKeywords Kr
 generalize hPI:Oc=PI
 wp_walk
 subst hPI
 refine La hl1 (b_ (Ln ?_))
 have hlS:l < s.heap.objs.size:=o_ hol
 have hneI:l≠(s.heap.push (du (!byT w))).objs.size:=by rw [F_]; exact t_ (HP hlS)
 have hSf:s.heap.objs.size ∉ [(s.heap.push (du (!byT w))).objs.size,l]:=by
  rw [F_]
  simp only [on,Hn,or_false,not_or]
  exact ⟨t_ (Ij _),Kn hlS⟩
 refine BA ((Walks.tuple (by simp [hh]) _ l hneI items).toS) s.heap.objs.size hSf key hk hn (items.size - 0) 0 _ (by omega) (Hq _) ⟨⟨_,i_ _ rfl,rfl,rfl⟩,(hl1.push _)⟩ ?_ ?_
 · exact nA (e_ _ hS)
 · intro s' hm hS'
   obtain ⟨h',g',d',tk',os'⟩:=s'
   have eg:g'=s.gens:=hm.gens
   have ed:d'=s.drawn:=hm.drawn
   have eo:os'=s.os:=hm.os
   subst eg; subst ed; subst eo
   show k_ _ _ _ _ _ _
   refine d_ ?_
   show k_ _ _ (ret E_) _ _ _
   refine d_ (hR h' tk' hS' fun b o hb e=>?_)
   have hb1:b≠s.heap.objs.size:=t_ hb
   have hb2:b≠(s.heap.push (du (!byT w))).objs.size:=by rw [F_]; exact t_ (HP hb)
   exact hm.heap b o (by simp only [on,Hn,or_false,not_or]; exact ⟨hb1,hb2⟩) (e_ _ (e_ _ e))
theorem call_set_T2 {l:Addr} {items:Array Value} {key:Nat→Str} {Q:Value→c_→Prop} (hh:A.handled=none) (hl:s.heap.IsTuple l items)
 (hk:∀ (i:Nat) (v:Value),items[i]?=some v→∃ tk,v=IB (key i) tk) (hn:items.size≤59)
 (h:∀ (h':Heap) (tk:Nat),SetS prog w h' s.heap.objs.size (ddk ((h_ items.size).map key))→(∀ b o,b < s.heap.objs.size→s.heap.get? b=some o→h'.get? b=some o)→Q (.ref s.heap.objs.size) { s with heap:=h',toks:=tk }) :
 k_ (p_ prog w) A (call (.type "set") [.ref l]) Q E s:=by
 obtain ⟨c,tl,hmro⟩:=Hs.mro
 have hmade:=Hs.made
 have hsub:=Hs.sub
 refine Lb (L5 ?_)
 show k_ _ _ (callAny (.type "set") _) _ _ _
 refine d_ ⟨Km _ (by decide +kernel),Ic ME ?_⟩
 rw [Mv (LH "set" [.ref l] []) rfl]
 have h1:=Hs.notType
 have h2:=Hs.canCreate
 have hct:=MW (.ref l)
 repeat (any_goals (first | assumption | wp_step))
 refine Jh (rk (.ref l) (E:=E) (Q₁:=fun obj s₁=>obj=.ref s.heap.objs.size∧s₁={ s with heap:=s.heap.push (du (!byT w)) }) ⟨rfl,rfl⟩) fun r s₁ hr=>?_
 cases r with
 | error e=>exact hr
 | ok fl =>
  cases fl with
  | ret obj =>
   obtain ⟨rfl,rfl⟩:=hr
   have hT:Jt { s with heap:=s.heap.push (du (!byT w)) } (.ref s.heap.objs.size) "set":=⟨_,i_ _ rfl,rfl⟩
   have hli:=Hs.init.lookup
   have hbi:=Hs.init.bind (.ref s.heap.objs.size)
   repeat (any_goals (first | assumption | wp_step))
   refine Jh (x3 (R:=wants (fun r s₂=>r=.none∧∃ h' tk,s₂={ s with heap:=h',toks:=tk }∧SetS prog w h' s.heap.objs.size (ddk ((h_ items.size).map key)) ∧
    (∀ b o,b < s.heap.objs.size→s.heap.get? b=some o→h'.get? b=some o)) E) (by simp [hh]) hl hk hn fun h' tk q1 q2=>⟨rfl,h',tk,rfl,q1,q2⟩) fun r₂ s₂ hr₂=>?_
   cases r₂ with
   | error e=>exact hr₂
   | ok fl₂ =>
    cases fl₂ with
    | ret r =>
     obtain ⟨rfl,h',tk,rfl,hS',hk'⟩:=hr₂
     repeat (any_goals (first | assumption | wp_step))
     exact h _ _ hS' hk'
    | _=>exact hr₂.elim
  | _=>exact hr.elim
end
theorem sl_sin:Slot "set_iterator" "__next__" "set_iterator.__next__" :=
 .of (n:="__next__") (owner:="set_iterator") (by rw [typeLookup_type,Nv]; kernel_rfl) (by decide +kernel) (by decide +kernel) (by decide +kernel) (by first | exact .inl (by decide +kernel) | exact .inr (by decide +kernel)) (by rw [ND]; kernel_rfl)
theorem nB:entryFor table "set_iterator.__next__"=some Jw.«set_iterator.__next__»:=entryFor_of_tree (by kernel_rfl)
theorem nF (a:Value):argsOk "set_iterator.__next__" ⟨[a],[]⟩:=by unfold argsOk; kernel_rfl
theorem ER:entryFor table "set.__iter__"=some Jw.«frozenset.__iter__» :=
 entryFor_alias (id':="frozenset.__iter__") (by kernel_rfl) rfl (by decide +kernel) (by kernel_rfl)
theorem fR {α:Type}:∀ (l:List α) (i:Nat) (h:i < l.length),(l[i] :: l.eraseIdx i).Perm l
 | x :: l,0,_=>.refl _
 | x :: l,i + 1,h=>by
  have ih:=fR l i (by simpa using h)
  exact (NR ..).trans (ih.cons x)
theorem kL {α:Type} (next:Nat→Nat):∀ (n k:Nat) (left:List α) (out:Array α),left.length=n→(Os next n k left out).toList.Perm (out.toList ++ left)
 | 0,k,left,out,h=>by
  have:left=[]:=IQ.mp h
  subst this
  unfold Os
  simp
 | n + 1,k,left,out,h=>by
  unfold Os
  have hlt:next k % left.length < left.length:=Le _ (by omega)
  rw [u_ hlt]
  dsimp only
  refine (kL next n (k + 1) _ _ (by rw [My hlt]; omega)).trans ?_
  rw [MK,KG]
  exact List.Perm.append_left _ (fR _ _ hlt)
section
variable {prog:Program} {w:D_} {A:w_} {E:Value→c_→Prop}
theorem rm {src:Source} {n:Nat} {s:c_} {Q:Nat→c_→Prop} (hn:n≠0) (h:∀ i d,i < n→Q i { s with drawn:=d }):k_ (p_ prog w) A (choose src n) Q E s:=fun _ _ _=>⟨hn,h _ _ (Le _ (Nat.pos_of_ne_zero hn))⟩
theorem ro {α:Type}:∀ (n:Nat) (xs:List α) (s:c_) (Q:List α→c_→Prop),xs.length=n→(∀ ys d,ys.Perm xs→Q ys { s with drawn:=d })→k_ (p_ prog w) A (drawOrder n xs) Q E s
 | 0,xs,s,Q,hl,h=>by
  have:xs=[]:=IQ.mp hl
  subst this
  unfold drawOrder
  have e:s={ s with drawn:=s.drawn }:=by cases s; rfl
  refine d_ ?_
  rw [e]
  exact h [] s.drawn (.refl _)
 | n + 1,[],s,Q,hl,h=>by simp at hl
 | n + 1,x :: xs,s,Q,hl,h=>by
  unfold drawOrder
  refine b_ (rm (by simp) fun i d hi=>?_)
  rw [u_ hi]
  dsimp only
  refine b_ (ro n ((x :: xs).eraseIdx i) _ _ (by rw [My hi]; simp at hl ⊢; omega) fun ys d2 hp=>?_)
  refine d_ (h _ d2 ?_)
  exact (hp.cons _).trans (fR _ _ hi)
variable {s:c_}
structure Rd (w:D_) (h:Heap) (S:Addr) (es:Array (Int×Value)) (ep:Nat) (t:SetTable):Prop where
 o:∃ o,h.get? S=some o∧o.ExactSet∧o.data=.set es ep t
 f:t.fits es.size=true
 l:t.led=(!byT w)
 p:es.size≠0→t.plain=false
theorem Rd.moved {h h':Heap} {S:Addr} {es:Array (Int×Value)} {ep:Nat} {t:SetTable} (r:Rd w h S es ep t) (k:∀ o,h.get? S=some o→h'.get? S=some o):Rd w h' S es ep t:=by
 obtain ⟨⟨o,ho,hr⟩,h1,h2,h3⟩:=r
 exact ⟨⟨o,k _ ho,hr⟩,h1,h2,h3⟩
abbrev sIt (first:Value) (i:Nat) (S:Addr) (n ep:Nat):Obj:={ cls:=.type "set_iterator",dict:=none,data:=.fields #[first,IT i,.ref S,IT n,IT ep],slots:=#[] }
theorem nG (f:Value) (i:Nat) (S:Addr) (n ep:Nat):sIt f (i + 1) S n ep={ cls:=.type "set_iterator",dict:=none,data:=.fields #[f,.int ((i:Int) + 1) 0,.ref S,.int n 0,.int ep 0],slots:=#[] }:=by simp [IT]
theorem uW {I S:Addr} {es:Array (Int×Value)} {ep i slot:Nat} {t:SetTable} {Q:Option Value→c_→Prop} (r:Rd w s.heap S es ep t) (hI:s.heap.get? I=some (sIt (IT slot) i S es.size ep))
 {x:Value} {nx:Nat} (hN:∀ (R:Option (Value×Nat)→c_→Prop) (E':Value→c_→Prop),R (some (x,nx)) s→k_ (p_ prog w) A.in1 (Na S slot i ep) R E' s)
 (hQ:∀ h',h'.get? I=some (sIt (IT nx) (i + 1) S es.size ep)→Ir I s.heap h'→Q (some x) { s with heap:=h' }):k_ (p_ prog w) A (Kw (.ref I)) Q E s:=by
 have ty:s.TypeIs (.ref I) "set_iterator":=⟨_,hI,rfl⟩
 obtain ⟨o,ho,hex,hd⟩:=r.o
 unfold Kw
 refine b_ (Jg (HJ (name:=a_ "__next__") ty sl_sin (HS sl_sin ty nB ?_ (nF _))))
 unfold Jw.«set_iterator.__next__»
 refine b_ (m:=Po _ _ _) (JJ (a:=(xy I,[])) (by rfl) ?_)
 refine b_ (Mj hI rfl ?_)
 dsimp only [IT,LD]
 refine b_ (JX ho hd r.f ?_)
 rw [if_neg (by simp)]
 refine b_ (m:=pure _) (d_ ?_)
 dsimp only
 refine b_ (hN _ _ ?_)
 dsimp only
 refine b_ (HW hI (by simp) fun h1 g1 b1=>?_)
 refine b_ (HW g1 (by simp) fun h2 g2 b2=>?_)
 exact d_ ⟨x,rfl,d_ (hQ _ (by rw [nG]; simpa [IT] using g2) (b1.trans b2))⟩
theorem kM {I S:Addr} {es:Array (Int×Value)} {ep i slot:Nat} {t:SetTable} {Q:Option Value→c_→Prop} (hh:A.handled=none) (r:Rd w s.heap S es ep t) (hI:s.heap.get? I=some (sIt (IT slot) i S es.size ep))
 (hN:∀ (R:Option (Value×Nat)→c_→Prop) (E':Value→c_→Prop),R none s→k_ (p_ prog w) A.in1 (Na S slot i ep) R E' s)
 (hQ:∀ h',NI I s.heap h'→Q none { s with heap:=h' }):k_ (p_ prog w) A (Kw (.ref I)) Q E s:=by
 have ty:s.TypeIs (.ref I) "set_iterator":=⟨_,hI,rfl⟩
 obtain ⟨o,ho,hex,hd⟩:=r.o
 unfold Kw
 refine b_ (Jg (HJ (name:=a_ "__next__") ty sl_sin (HS sl_sin ty nB ?_ (nF _))))
 unfold Jw.«set_iterator.__next__»
 refine b_ (m:=Po _ _ _) (JJ (a:=(xy I,[])) (by rfl) ?_)
 refine b_ (Mj hI rfl ?_)
 dsimp only [IT,LD]
 refine b_ (JX ho hd r.f ?_)
 rw [if_neg (by simp)]
 refine b_ (m:=pure _) (d_ ?_)
 dsimp only
 refine b_ (hN _ _ ?_)
 dsimp only
 refine b_ (HW hI (by simp) fun h1 g1 b1=>?_)
 refine b_ ?_
 simp only [newExc,Ot]
 refine b_ (Hy ?_ (by size_fits))
 refine b_ (m:=KM _ _) (JJ (a:=E_) (by first | rfl | (simp only [KM]; rfl)) ?_)
 refine Hy ?_ (by size_fits)
 simp only [raiseNew]
 refine b_ (N4 ?_)
 rw [show A.in1.handled=none from hh]
 refine b_ (d_ (O9 ?_))
 refine b_ (LL (T:="StopIteration") (b:=true) ⟨_,i_ _ rfl,rfl⟩ NE ?_)
 exact d_ (hQ _ ((b1.extBut.push _).push _))
theorem uX {I S T:Addr} {es:Array (Int×Value)} {ep i:Nat} {t:SetTable} {pl:Array Value} {Q:Option Value→c_→Prop} (r:Rd w s.heap S es ep t) (hI:s.heap.get? I=some (sIt (.ref T) i S es.size ep)) (hT:s.heap.IsTuple T pl)
 {k:Nat} {h0:Int} {x:Value} (hp:pl[i]?=some (IT k)) (hk:es[k]?=some (h0,x))
 (hQ:∀ h',h'.get? I=some (sIt (.ref T) (i + 1) S es.size ep)→Ir I s.heap h'→Q (some x) { s with heap:=h' }):k_ (p_ prog w) A (Kw (.ref I)) Q E s:=by
 have ty:s.TypeIs (.ref I) "set_iterator":=⟨_,hI,rfl⟩
 obtain ⟨o,ho,hex,hd⟩:=r.o
 obtain ⟨oT,hoT,_,nT,hdT⟩:=hT
 unfold Kw
 refine b_ (Jg (HJ (name:=a_ "__next__") ty sl_sin (HS sl_sin ty nB ?_ (nF _))))
 unfold Jw.«set_iterator.__next__»
 refine b_ (m:=Po _ _ _) (JJ (a:=(xy I,[])) (by rfl) ?_)
 refine b_ (Mj hI rfl ?_)
 dsimp only [IT,LD]
 refine b_ (JX ho hd r.f ?_)
 rw [if_neg (by simp)]
 refine b_ (m:=pure _) (d_ ?_)
 dsimp only
 refine b_ (KL hoT hdT ?_)
 dsimp only
 rw [KH,hp]
 dsimp only [IT]
 refine b_ ?_
 unfold setNextDrawn
 refine b_ (HM ho hd r.f ?_)
 dsimp only
 rw [if_neg (by simp)]
 refine b_ (m:=pure _) (d_ ?_)
 rw [KH,hk]
 dsimp only
 refine d_ ?_
 refine b_ (HW hI (by simp) fun h1 g1 b1=>?_)
 exact d_ ⟨x,rfl,d_ (hQ _ (by rw [nG]; simpa [IT] using g1) b1)⟩
theorem kN {I S T:Addr} {es:Array (Int×Value)} {ep i:Nat} {t:SetTable} {pl:Array Value} {Q:Option Value→c_→Prop} (hh:A.handled=none) (r:Rd w s.heap S es ep t) (hI:s.heap.get? I=some (sIt (.ref T) i S es.size ep)) (hT:s.heap.IsTuple T pl)
 (hp:pl[i]?=none) (hQ:∀ h',NI I s.heap h'→Q none { s with heap:=h' }):k_ (p_ prog w) A (Kw (.ref I)) Q E s:=by
 have ty:s.TypeIs (.ref I) "set_iterator":=⟨_,hI,rfl⟩
 obtain ⟨o,ho,hex,hd⟩:=r.o
 obtain ⟨oT,hoT,_,nT,hdT⟩:=hT
 unfold Kw
 refine b_ (Jg (HJ (name:=a_ "__next__") ty sl_sin (HS sl_sin ty nB ?_ (nF _))))
 unfold Jw.«set_iterator.__next__»
 refine b_ (m:=Po _ _ _) (JJ (a:=(xy I,[])) (by rfl) ?_)
 refine b_ (Mj hI rfl ?_)
 dsimp only [IT,LD]
 refine b_ (JX ho hd r.f ?_)
 rw [if_neg (by simp)]
 refine b_ (m:=pure _) (d_ ?_)
 dsimp only
 refine b_ (KL hoT hdT ?_)
 dsimp only
 rw [KH,hp]
 dsimp only
 refine b_ (HW hI (by simp) fun h1 g1 b1=>?_)
 refine b_ (HW g1 (by simp) fun h2 g2 b2=>?_)
 refine b_ ?_
 simp only [newExc,Ot]
 refine b_ (Hy ?_ (by size_fits))
 refine b_ (m:=KM _ _) (JJ (a:=E_) (by first | rfl | (simp only [KM]; rfl)) ?_)
 refine Hy ?_ (by size_fits)
 simp only [raiseNew]
 refine b_ (N4 ?_)
 rw [show A.in1.handled=none from hh]
 refine b_ (d_ (O9 ?_))
 refine b_ (LL (T:="StopIteration") (b:=true) ⟨_,i_ _ rfl,rfl⟩ NE ?_)
 exact d_ (hQ _ (((b1.trans b2).extBut.push _).push _))
theorem v9 {S:Addr} {es:Array (Int×Value)} {ep i slot:Nat} {t:SetTable} {R:Option (Value×Nat)→c_→Prop} (r:Rd w s.heap S es ep t) (hb:byT w=true)
 (hR:R (((Mf (w.params.setOrder S ep) es)[i]?).map fun e=>(e.2,slot)) s):k_ (p_ prog w) A (Na S slot i ep) R E s:=by
 obtain ⟨o,ho,hex,hd⟩:=r.o
 unfold Na Ob setWalk Ob
 refine b_ (HM ho hd r.f ?_)
 dsimp only
 refine b_ (b_ (J0 (d_ ?_)))
 dsimp only
 rw [if_pos (show (p_ prog w).w.params.followText "set-order"=true from hb),if_neg (by simp)]
 refine b_ (b_ (HM ho hd r.f ?_))
 dsimp only
 refine b_ (b_ (J0 (d_ ?_)))
 dsimp only
 rw [if_pos (show (p_ prog w).w.params.followText "set-order"=true from hb)]
 refine b_ (J0 (d_ ?_))
 exact d_ hR
theorem wa {S:Addr} {es:Array (Int×Value)} {ep i slot:Nat} {t:SetTable} {R:Option (Value×Nat)→c_→Prop} (r:Rd w s.heap S es ep t) (hb:byT w=false) (hn:es.size≤1)
 (hR:R (match es[SetTable.below t.place slot]?,t.place[SetTable.below t.place slot]? with | some (_,x),some j=>some (x,j + 1) | _,_=>none) s):k_ (p_ prog w) A (Na S slot i ep) R E s:=by
 obtain ⟨o,ho,hex,hd⟩:=r.o
 have hl:t.led=true:=by rw [r.l,hb]; rfl
 unfold Na Ob
 refine b_ (HM ho hd r.f ?_)
 dsimp only
 refine b_ (b_ (J0 (d_ ?_)))
 dsimp only
 rw [if_neg (show ¬ ((p_ prog w).w.params.followText "set-order"=true) from by rw [show (p_ prog w).w.params.followText "set-order"=false from hb]; simp)]
 split
 · rename_i hc
   have hc':(!t.plain && decide (es.size > 1))=true:=hc
   simp at hc'
   omega
 · refine b_ (JJ (a:=()) ?_ (d_ hR))
   show (if (!t.led && !es.isEmpty)=true then _ else pure ())=pure ()
   rw [hl]
   rfl
end
theorem wb:Slot "set_iterator" "__iter__" "set_iterator.__iter__" :=
 .of (n:="__iter__") (owner:="set_iterator") (by rw [typeLookup_type,Nv]; kernel_rfl) (by decide +kernel) (by decide +kernel) (by decide +kernel) (by first | exact .inl (by decide +kernel) | exact .inr (by decide +kernel)) (by rw [ND]; kernel_rfl)
theorem BB:entryFor table "set_iterator.__iter__"=some Jw.«dict_keyiterator.__iter__» :=
 entryFor_alias (id':="dict_keyiterator.__iter__") (by kernel_rfl) (by first | rfl | decide +kernel | (unfold String.splitOn; simp +decide [String.splitOnAux])) (by decide +kernel) (by kernel_rfl)
theorem BC (a:Value):argsOk "set_iterator.__iter__" ⟨[a],[]⟩:=by unfold argsOk; kernel_rfl
theorem rq {α:Type} {xs:Array α} (h:xs.size=1):∃ a,xs=#[a]:=by
 obtain ⟨l⟩:=xs
 match l,h with
 | [a],_=>exact ⟨a,rfl⟩
section
variable {prog:Program} {w:D_} {A:w_} {E:Value→c_→Prop} {s:c_}
theorem kO {I:Addr} {Q:Value→c_→Prop} (hT:s.TypeIs (.ref I) "set_iterator") (h:Q (.ref I) s):k_ (p_ prog w) A (Oc (.ref I)) Q E s:=by
 refine wpAny_pyIter_slot hT wb (HS wb hT BB ?_ (BC _))
 show k_ _ _ (ret (.ref I)) _ _ s
 exact d_ ⟨_,rfl,"set_iterator",_,hT,sl_sin.lookup,h⟩
theorem kP (hh:A.handled=none) (I S:Addr) (hne:S≠I) (es:Array (Int×Value)) (ep:Nat) (t:SetTable) (vs:List Value) (sl:Nat→Nat) (hl:vs.length=es.size)
 (hN:∀ (i:Nat) (v:Value) (s:c_) (R:Option (Value×Nat)→c_→Prop) (E':Value→c_→Prop),Rd w s.heap S es ep t→vs[i]?=some v→R (some (v,sl (i + 1))) s→k_ (p_ prog w) A.in1 (Na S (sl i) i ep) R E' s)
 (hE:∀ (s:c_) (R:Option (Value×Nat)→c_→Prop) (E':Value→c_→Prop),Rd w s.heap S es ep t→R none s→k_ (p_ prog w) A.in1 (Na S (sl vs.length) vs.length ep) R E' s) :
 Walks prog w A I [I,S] [I] vs.length (fun i v=>vs[i]?=some v) (fun i h=>h.get? I=some (sIt (IT (sl i)) i S es.size ep)∧Rd w h S es ep t) where
 sub:=fun b hb=>by simp at hb; simp [hb]
 frame:=fun _ _ _ st hk=>⟨hk I (by simp) _ st.1,st.2.moved fun o e=>hk S (by simp) o e⟩
 item:=fun i s Q E hi st hQ=>by
  have hv:vs[i]?=some vs[i]:=by simp [hi]
  refine uW st.2 st.1 (x:=vs[i]) (nx:=sl (i + 1)) (fun R E' hR=>hN i _ s R E' st.2 hv hR) fun h' g b=>?_
  exact hQ _ h' s.toks hv ⟨g,st.2.moved fun o e=>b.extBut S o hne e⟩ fun b' o hb e=>b.extBut b' o (fun h=>hb (by simp [h])) e
 done:=fun s Q E st hQ=>kM hh st.2 st.1 (fun R E' hR=>hE s R E' st.2 hR) fun h' he'=>hQ h' s.toks fun b o hb e=>he' b o (fun h=>hb (by simp [h])) e
 self:=fun _ _ _ _ st hQ=>kO ⟨_,st.1,rfl⟩ hQ
theorem rA (hh:A.handled=none) (I S T:Addr) (hne:S≠I) (hT:T≠I) (es:Array (Int×Value)) (ep:Nat) (t:SetTable) (ks:List Nat) (vs:List Value) (hl:vs.length=ks.length)
 (hk:∀ (i:Nat) (k:Nat) (v:Value),ks[i]?=some k→vs[i]?=some v→∃ h0,es[k]?=some (h0,v)) :
 Walks prog w A I [I,S,T] [I] vs.length (fun i v=>vs[i]?=some v) (fun i h=>h.get? I=some (sIt (.ref T) i S es.size ep)∧Rd w h S es ep t∧h.IsTuple T (ks.map fun (i:Nat)=>IT i).toArray) where
 sub:=fun b hb=>by simp at hb; simp [hb]
 frame:=fun _ _ _ st hk=>⟨hk I (by simp) _ st.1,st.2.1.moved fun o e=>hk S (by simp) o e,st.2.2.at fun o e=>hk T (by simp) o e⟩
 item:=fun i s Q E hi st hQ=>by
  have hv:vs[i]?=some vs[i]:=by simp [hi]
  have hki:ks[i]?=some (ks[i]'(by omega)):=by simp [show i < ks.length by omega]
  obtain ⟨h0,e0⟩:=hk i _ _ hki hv
  refine uX st.2.1 st.1 st.2.2 (x:=vs[i]) (k:=ks[i]'(by omega)) (h0:=h0) (by simp [show i < ks.length by omega]) e0 fun h' g b=>?_
  exact hQ _ h' s.toks hv ⟨g,st.2.1.moved fun o e=>b.extBut S o hne e,st.2.2.extBut b.extBut hT⟩ fun b' o hb e=>b.extBut b' o (fun h=>hb (by simp [h])) e
 done:=fun s Q E st hQ=>kN hh st.2.1 st.1 st.2.2 (by simp [hl]) fun h' he'=>hQ h' s.toks fun b o hb e=>he' b o (fun h=>hb (by simp [h])) e
 self:=fun _ _ _ _ st hQ=>kO ⟨_,st.1,rfl⟩ hQ
structure Wk (prog:Program) (w:D_) (S I:Addr) (h:Heap) (h':Heap) (es:Array (Int×Value)) (vs:List Value) (fp:List Addr) (St:Nat→Heap→Prop):Prop where
 W:∀ A:w_,A.handled=none→Walks prog w A I fp [I] vs.length (fun i v=>vs[i]?=some v) St
 st:St 0 h'
 pm:vs.Perm (es.toList.map (·.2))
 up:∀ b o,h.get? b=some o→h'.get? b=some o
 nw:h.objs.size≤I
 fp:∀ b∈fp,(b=S∨h.objs.size≤b)∧b < h'.objs.size
theorem uY {S:Addr} {es:Array (Int×Value)} {ep:Nat} {t:SetTable} {Q:Value→c_→Prop} (r:Rd w s.heap S es ep t) (hn60:es.size≤60)
 (hQ:∀ (I:Addr) (h':Heap) (d:Drawn) (vs:List Value) (fp:List Addr) (St:Nat→Heap→Prop),Wk prog w S I s.heap h' es vs fp St→Q (.ref I) { s with heap:=h',drawn:=d }):k_ (p_ prog w) A (Oc (.ref S)) Q E s:=by
 obtain ⟨o,ho,hex,hd⟩:=id r.o
 have hT:s.TypeIs (.ref S) "set":=⟨o,ho,hex.1⟩
 have hS:S < s.heap.objs.size:=o_ ho
 have hsz:t.place.size=es.size:=by have:=r.f; unfold PC at this; simp at this; exact this.1
 refine wpAny_pyIter_slot hT F.slot_set_iter (HS F.slot_set_iter hT ER ?_ (F.args_set_iter_1 _))
 unfold Jw.«frozenset.__iter__»
 refine b_ (m:=PL _ _) (JJ (a:=S) (by rfl) ?_)
 refine b_ ?_
 unfold PF
 refine b_ (JX ho hd r.f (d_ ?_))
 refine b_ ?_
 unfold setDrawn Ob
 refine b_ (HM ho hd r.f ?_)
 dsimp only
 refine b_ (b_ (J0 (d_ (d_ ?_))))
 dsimp only
 split
 · rename_i hc
   have hc':(!byT w && (!t.plain && decide (es.size > 1)))=true:=hc
   simp at hc'
   refine b_ (ro _ _ _ _ (by simp) fun ks d hp=>?_)
   have z:ks.length≤sizeLine:=by
    have h1:=hp.length_eq
    rw [KC] at h1
    have:sizeLine=16777216:=by decide
    omega
   unfold Ot
   refine b_ (Hy ?_ (by simpa [sizeOk] using z))
   have ho1:(s.heap.push { cls:=.type "tuple",data:=.seq (ks.map fun (i:Nat)=>IT i).toArray }).get? S=some o:=e_ _ ho
   refine b_ ?_
   unfold setEpoch
   refine b_ (HM ho1 hd r.f (d_ ?_))
   refine b_ (Hy (d_ ⟨_,rfl,"set_iterator",_,⟨_,i_ _ rfl,rfl⟩,sl_sin.lookup,?_⟩))
   have hlt:∀ k∈ks,k < es.size:=fun k hk=>by simpa using hp.mem_iff.mp hk
   refine hQ _ _ d (ks.map fun k=>(es.toList.map (·.2)).getD k .none) [(s.heap.push { cls:=.type "tuple",data:=.seq (ks.map fun (i:Nat)=>IT i).toArray }).objs.size,S,s.heap.objs.size] _
    ⟨fun A' h'=>rA h' _ S s.heap.objs.size (by rw [F_]; exact t_ (HP hS)) (by rw [F_]; exact t_ (Ij _)) es ep t ks _ (by simp) (fun i k v e1 e2=>?_),⟨i_ _ rfl,r.moved (fun o' e=>e_ _ (e_ _ e)),?_⟩,?_,fun b o' e=>e_ _ (e_ _ e),by rw [F_]; exact KQ _,?_⟩
   · have hk:=hlt k (Jk e1)
     simp [e1] at e2
     refine ⟨es[k].1,?_⟩
     rw [← e2]
     simp [hk]
   · exact ⟨_,e_ _ (i_ _ rfl),rfl,0,rfl⟩
   · have e:(h_ es.size).map (fun k=>(es.toList.map (·.2)).getD k .none)=es.toList.map (·.2):=FD.range_getD _ _ _ (by simp)
     exact (hp.map _).trans (by rw [e])
   · intro b hb
     rw [F_,F_]
     rw [F_] at hb
     simp only [on,Hn,or_false] at hb
     rcases hb with hb | hb | hb
     · subst hb
       exact ⟨.inr (KQ _),Ij _⟩
     · subst hb
       exact ⟨.inl rfl,HP (HP hS)⟩
     · subst hb
       exact ⟨.inr (n_ _),HP (Ij _)⟩
 · rename_i hc
   have hc':¬ ((!byT w && (!t.plain && decide (es.size > 1)))=true):=hc
   refine b_ (d_ ?_)
   refine b_ ?_
   unfold setEpoch
   refine b_ (HM ho hd r.f (d_ ?_))
   refine b_ (Hy (d_ ⟨_,rfl,"set_iterator",_,⟨_,i_ _ rfl,rfl⟩,sl_sin.lookup,?_⟩))
   have fin:∀ (vs:List Value) (sl:Nat→Nat),sl 0=0→vs.Perm (es.toList.map (·.2))→(∀ A:w_,A.handled=none→Walks prog w A s.heap.objs.size [s.heap.objs.size,S] [s.heap.objs.size] vs.length (fun i v=>vs[i]?=some v) (fun i h=>h.get? s.heap.objs.size=some (sIt (IT (sl i)) i S es.size ep)∧Rd w h S es ep t)) →
    Q (.ref s.heap.objs.size) { s with heap:=s.heap.push (sIt (IT 0) 0 S es.size ep) }:=by
    intro vs sl h0 hp hW
    have e:({ s with heap:=s.heap.push (sIt (IT 0) 0 S es.size ep) }:c_)={ s with heap:=s.heap.push (sIt (IT 0) 0 S es.size ep),drawn:=s.drawn }:=rfl
    rw [e]
    refine hQ _ _ s.drawn vs _ _ ⟨hW,⟨by rw [h0]; exact i_ _ rfl,r.moved (fun o' e=>e_ _ e)⟩,hp,fun b o' e=>e_ _ e,n_ _,fun b hb=>?_⟩
    rw [F_]
    simp only [on,Hn,or_false] at hb
    rcases hb with hb | hb
    · subst hb
      exact ⟨.inr (n_ _),Ij _⟩
    · subst hb
      exact ⟨.inl rfl,HP hS⟩
   by_cases hb:byT w=true
   · have hpm:(Mf (w.params.setOrder S ep) es).toList.Perm es.toList:=by
      have:=kL (w.params.setOrder S ep) es.size 0 es.toList #[] (by simp)
      simpa [Mf] using this
     have hlen:(Mf (w.params.setOrder S ep) es).size=es.size:=by simpa using hpm.length_eq
     refine fin ((Mf (w.params.setOrder S ep) es).toList.map (·.2)) (fun _=>0) rfl (hpm.map _) fun A' h'=>kP h' _ S (t_ hS) es ep t _ _ (by simp [hlen]) (fun i v s1 R E' r1 e1 hR=>v9 r1 hb ?_) (fun s1 R E' r1 hR=>v9 r1 hb ?_)
     · simp at e1
       obtain ⟨a,e1⟩:=e1
       rw [e1]
       exact hR
     · rw [show (Mf (w.params.setOrder S ep) es)[(List.map (·.2) (Mf (w.params.setOrder S ep) es).toList).length]?=none by simp]
       exact hR
   · have hb':byT w=false:=by simpa using hb
     have hn1:es.size≤1:=by
      rw [hb'] at hc'
      by_cases z:es.size=0
      · omega
      · rw [r.p z] at hc'
        simp at hc'
        exact hc'
     refine fin (es.toList.map (·.2)) (fun i=>if i=0 then 0 else t.place.getD 0 0 + 1) rfl (.refl _) fun A' h'=>kP h' _ S (t_ hS) es ep t _ _ (by simp) (fun i v s1 R E' r1 e1 hR=>wa r1 hb' hn1 ?_) (fun s1 R E' r1 hR=>wa r1 hb' hn1 ?_)
     · have hi:i=0:=by
        have:=v_.mp e1
        obtain ⟨q,_⟩:=this
        simp at q
        omega
       subst hi
       obtain ⟨a,ea⟩:∃ a,es=#[a]:=by
        obtain ⟨l⟩:=es
        have:=(v_.mp e1).1
        match l,this,hn1 with
        | [a],_,_=>exact ⟨a,rfl⟩
        | _ :: _ :: _,_,h=>simp at h
       subst ea
       obtain ⟨j,ej⟩:∃ j,t.place=#[j]:=rq hsz
       simp at e1
       subst e1
       rw [ej] at hR ⊢
       simpa [below,OD] using hR
     · by_cases z:es.size=0
       · have e0:es=#[]:=Array.eq_empty_of_size_eq_zero z
         subst e0
         simpa using hR
       · obtain ⟨a,ea⟩:=rq (xs:=es) (by omega:es.size=1)
         subst ea
         obtain ⟨j,ej⟩:∃ j,t.place=#[j]:=rq hsz
         rw [ej]
         simpa [below,OD] using hR
end
section
variable {prog:Program} {w:D_} {A:w_} {E:Value→c_→Prop} {s:c_}
theorem lR {S:Addr} {es:Array (Int×Value)} {ep:Nat} {t:SetTable} {Q:List Value→c_→Prop} (hh:A.handled=none) (r:Rd w s.heap S es ep t) (hn60:es.size≤60)
 (hQ:∀ (h':Heap) (d:Drawn) (tk:Nat) (vs:List Value),vs.Perm (es.toList.map (·.2))→s.heap.objs.size < h'.objs.size→(∀ b o,s.heap.get? b=some o→h'.get? b=some o)→Q vs { s with heap:=h',drawn:=d,toks:=tk }):k_ (p_ prog w) A (collect (.ref S)) Q E s:=by
 obtain ⟨o,ho,hex,hd⟩:=id r.o
 have hS:S < s.heap.objs.size:=o_ ho
 unfold collect
 refine b_ (Ln (Ic F.entry_proto_collect ?_))
 rw [IN F.plain_proto_collect _]
 show k_ _ A.in1 (newList [] >>= fun l=>Pu (.builtin "list.__iadd__" ⟨[l,.ref S],[]⟩)) _ _ s
 refine b_ (Hy ?_)
 refine d_ ⟨LO F.plain_list_iadd _,Ic F.entry_list_iadd ?_⟩
 rw [IN F.plain_list_iadd _]
 show k_ _ A.in1 (Jq (.ref s.heap.objs.size) (.ref S) (.ref s.heap.objs.size)) _ _ _
 unfold Jq
 generalize hH:s.heap.push { cls:=.type "list",data:=.seq ([]:List Value).toArray }=H
 have hHs:H.objs.size=s.heap.objs.size + 1:=by rw [← hH,F_]
 have up0:∀ b ob,s.heap.get? b=some ob→H.get? b=some ob:=fun b ob e=>hH ▸ e_ _ e
 have hL:H.get? s.heap.objs.size=some { cls:=.type "list",data:=.seq ([]:List Value).toArray }:=hH ▸ i_ _ rfl
 have ty:Jt { s with heap:=H } (.ref S) "set":=⟨o,up0 _ _ ho,hex.1⟩
 refine b_ (JH (T:="set") ty ?_)
 have h1:MQ (.ref s.heap.objs.size) (.ref S)=false:=by simp [MQ]; exact (t_ hS).symm
 have h2:(m_ "set" == m_ "list")=false:=by decide
 have h3:(m_ "set" == m_ "tuple")=false:=by decide
 simp only [h1,h2,h3,Bool.or_false,rl,if_false]
 refine b_ (uY (s:={ s with heap:=H }) (r.moved fun o e=>up0 _ _ e) hn60 fun I h' d vs fp St K=>?_)
 have ty':Jt { s with heap:=h',drawn:=d } (.ref S) "set":=⟨o,K.up _ _ (up0 _ _ ho),hex.1⟩
 refine b_ (HX ?_)
 unfold Builtin.List.listLengthHint
 refine b_ (wpAny_specialOf ty' F.slot_set_len.lookup ?_)
 wp_delta
 refine b_ (LL (T:="set") (b:=true) ty' (by rw [ND]; kernel_rfl) ?_)
 show k_ _ A.in1 (N_ (xy S) >>= _) _ _ _
 refine b_ (JH (T:="set") ty' ?_)
 refine d_ ?_
 show k_ _ A.in1 (rule "list.extend.makes-room" >>= fun _=>Builtin.List.listTouch (.ref s.heap.objs.size) >>= fun _ =>
  Pu (.builtin "list.extend.loop" ⟨[.ref s.heap.objs.size,.ref I,.ref s.heap.objs.size],[]⟩)) _ _ _
 refine b_ (JP ?_)
 have hS1:h'.get? s.heap.objs.size=some { cls:=.type "list",data:=.seq ([]:List Value).toArray }:=K.up _ _ hL
 refine b_ ?_
 show k_ _ A.in1 (updateSeq s.heap.objs.size (·.push .none) >>= fun _=>updateSeq s.heap.objs.size (·.pop)) _ _ _
 refine b_ (wpAny_updateSeq hS1 rfl ?_)
 have hS2:=Je (HB (·.push E_)) hS1 rfl
 refine wpAny_updateSeq hS2 rfl ?_
 have hS3:=Je (HB (·.pop)) hS2 rfl
 have oth:∀ b ob,b≠s.heap.objs.size→h'.get? b=some ob→((h'.update s.heap.objs.size (HB (·.push E_))).update s.heap.objs.size (HB (·.pop))).get? b=some ob :=
  fun b ob hb e=>(Kl _ _ (IG hb)).trans ((Kl _ _ (IG hb)).trans e)
 have hSf:s.heap.objs.size ∉ fp:=fun hm=>by
  rcases (K.fp _ hm).1 with e | e
  · exact absurd e (t_ hS).symm
  · rw [hHs] at e
    exact absurd e (Nat.not_le.mpr (Ij _))
 have W:=K.W A.in1 hh
 have hvn:vs.length≤sizeLine:=by
  have h1:=K.pm.length_eq
  simp at h1
  have:sizeLine=16777216:=by decide
  omega
 refine d_ ⟨LO F.plain_extend_loop _,codeAny_extend_loopS W.toS hvn _ hSf _ vs.length 0 _ _ _ rfl (Hq _)
  (W.frame 0 h' _ K.st fun b hb ob e=>oth b ob (fun h=>hSf (h ▸ hb)) e) hS3 (ItemsOf.nil _) fun s' acc' c' hm hS' hacc=>?_⟩
 show k_ _ A (load s.heap.objs.size >>= _) _ _ s'
 refine b_ (wpAny_load hS' ?_)
 have eacc:acc'.toList=vs:=by
  apply M_
  · simpa using hacc.1
  · intro i h1 h2
    have:vs[i]?=some acc'[i]:=hacc.2 i acc'[i] (by simp)
    rw [u_ h2] at this
    simpa using this.symm
 show k_ _ A (pure acc'.toList) _ _ s'
 rw [eacc]
 obtain ⟨h2',g',d',tk',os'⟩:=s'
 have eg:g'=s.gens:=hm.gens
 have ed:d'=d:=hm.drawn
 have eo:os'=s.os:=hm.os
 subst eg; subst ed; subst eo
 refine d_ (hQ h2' d' tk' vs K.pm (o_ hS') fun b ob e=>hm.heap b ob (fun hb=>?_) (oth b ob (t_ (o_ e)) (K.up _ _ (up0 _ _ e))))
 have hlt:=o_ e
 rcases on.mp hb with h | h
 · exact absurd hlt (h ▸ Ik _)
 · rw [Ih.mp h] at hlt
   have:=K.nw
   rw [hHs] at this
   exact absurd (Nm hlt this) (Ik _)
theorem SetS.rd {h:Heap} {S:Addr} {ks:List Str} (x:SetS prog w h S ks):∃ es ep t,Rd w h S es ep t∧es.size≤60∧(∀ e∈es.toList,∃ x t,e.2=.str x t)∧(es.toList.map fun e=>Pd e.2).Perm ks:=by
 obtain ⟨o,es,ep,t,ho,hex,hd,hf,hk,hl,hp,hel,hs,hm⟩:=x
 refine ⟨es,ep,t,⟨⟨o,ho,hex,hd⟩,hf,hl,hp⟩,?_,hs,hm⟩
 have:=hm.length_eq
 simp at this
 omega
theorem rB:∀ {vs:List Value},(∀ v∈vs,∃ x t,v=.str x t)→Pm vs (vs.map Pd)
 | [],_=>.nil
 | v :: vs,h=>by
  obtain ⟨x,t,rfl⟩:=h v g_
  exact .cons x t (rB fun v hv=>h v (l_ _ hv))
theorem sorted_set {S:Addr} {ks:List Str} {Q:Value→c_→Prop} (hh:A.handled=none) (x:SetS prog w s.heap S ks)
 (h:∀ (l:Addr) (h':Heap) (d:Drawn) (tk:Nat) (out:List Value) (e:Nat),Pm out (FD.isortB FD.leS ks)→h'.get? l=some (Ii "list" out.toArray e)→s.heap.objs.size≤l→(∀ b o,s.heap.get? b=some o→h'.get? b=some o)→Q (.ref l) { s with heap:=h',drawn:=d,toks:=tk }) :
 k_ (p_ prog w) A (call (.builtin "sorted") [.ref S]) Q E s:=by
 obtain ⟨es,ep,t,r,h60,hs,hm⟩:=x.rd
 refine Calls.call_function_entry kind_sorted plain_sorted entry_sorted (args_sorted1 _) ?_
 unfold Jw.«sorted»
 refine b_ (m:=checkCount "sorted" 1 1 _) (d_ ?_)
 refine b_ (lR hh r h60 fun h1 d tk vs hp hgr up=>?_)
 have hvs:∀ v∈vs,∃ x t,v=IB x t:=fun v hv=>by
  obtain ⟨e,he,rfl⟩:=Iv.mp (hp.mem_iff.mp hv)
  exact hs e he
 have hS:=rB hvs
 have hlen:vs.length < 64:=by
  have:=hp.length_eq
  simp at this
  omega
 have hpk:(vs.map Pd).Perm ks:=by
  have:=hp.map Pd
  rw [IC] at this
  exact this.trans hm
 refine b_ (MM ?_ (FD.line64 hlen))
 have hoL:(h1.push (Ii "list" vs.toArray 0)).get? h1.objs.size=some (Ii "list" vs.toArray 0):=i_ _ rfl
 refine b_ (HX (HS slot_list_sort ⟨_,hoL,rfl⟩ entry_list_sort (list_sort_treeK strKind_oneLt hoL hS.keysOf (fun v₁ v₂ rest e=>keyKind_strs (by rw [← e]; exact hS)) hlen fun st' hp' hs'=>⟨_,rfl,?_⟩) (args_list_sort _)))
 obtain ⟨ss',a1,a2,a3⟩:=sorted_out_str hS hp' hs'
 have es':ss'=FD.isortB FD.leS ks:=FD.sorted_uniq FD.ordS ((a2.trans hpk).trans (FD.isortB_perm FD.leS ks).symm) (FD.sortedS_pw _ a3) (FD.isortB_sorted FD.ordS ks)
 subst es'
 obtain ⟨e,he⟩:=sortedHeap_at (out:=(LX st').map (·.2)) hoL
 refine d_ ⟨_,rfl,h _ _ d tk _ e a1 (by rw [Array.toArray_toList]; exact he) (Jj hgr) fun b ob q=>?_⟩
 · have q1:=up _ _ q
   have hlt:=o_ q1
   rw [sortedHeap_old (t_ hlt) (by rw [F_]; exact HP hlt),OE _ _ _ (t_ hlt)]
   exact q1
end
end ST
namespace FD
open PySem PySem.Spec PyProof.Rows L2
def cO:List Dv→Option (Rs Dv)
 | [.lst ds]=>match cV ds with
  | some ks=>if ks.length≤59 then some (.ok (.lst ((isortB leS (ST.ddk ks)).map Dv.str))) else none
  | none=>none
 | [.tup ds]=>match cV ds with
  | some ks=>if ks.length≤59 then some (.ok (.lst ((isortB leS (ST.ddk ks)).map Dv.str))) else none
  | none=>none
 | _=>none
theorem rD {X:Cx} {pins:List (Addr×Obj)} {σ:List (Option V)} {H:Hp} {s:c_} (I:Inv X pins σ H s) (d:Drawn):Inv X pins σ H { s with drawn:=d }:=⟨I.ok,I.os,I.bare,I.base,I.loc,I.cell,I.free,I.freeC,I.pin,I.hok,I.len⟩
theorem jG:∀ {vs:List Value} {ss:List Str},Pm vs ss→vs.length=ss.length∧∀ (i:Nat) (v:Value),vs[i]?=some v→∃ tk,v=IB (ss.getD i "") tk
 | _,_,.nil=>⟨rfl,fun i v h=>by simp at h⟩
 | _,_,.cons x t h=>by
  obtain ⟨h1,h2⟩:=jG h
  refine ⟨by simp [h1],fun i v e=>?_⟩
  cases i with
  | zero=>simp at e; exact ⟨t,by simp [← e]⟩
  | succ i=>obtain ⟨tk,q⟩:=h2 i v (by simpa using e); exact ⟨tk,by simpa using q⟩
section
variable {X:Cx} {p p2 pos pos2:Pos} {e:Expr} {ga:FnA}
theorem oY (hc:X.calm=true) (hg:Gl X "sorted") (hm:X.mg "sorted"=none) (hg2:Gl X "set") (hm2:X.mg "set"=none) (ha:FA X [e] ga)
 (he:f_ [.Call (.Name "set" p2) [e] [] pos2] X.env=(false,eval (.Call (.Name "set" p2) [e] [] pos2) X.env) :: f_ [] X.env:=by kernel_rfl) (hpl:(Ho pos (f_ [] X.env)).any (·.1)=false:=by kernel_rfl)
 (he2:f_ [e] X.env=(false,eval e X.env) :: f_ [] X.env:=by kernel_rfl) (hpl2:(Ho pos2 (f_ [] X.env)).any (·.1)=false:=by kernel_rfl) :
 FE X (.Call (.Name "sorted" p) [.Call (.Name "set" p2) [e] [] pos2] [] pos) (fB1 cO ga):=⟨fun pins s σ H Q I ⟨ρ,E,o⟩=>by
 refine Ix (dh I hg hm (u:=.builtin "sorted") (by decide +kernel) ?_ (by decide) (by decide))
 refine Kc ?_ he hpl
 rw [he]
 show k_ _ _ (Pk ((false,eval (.Call (.Name "set" p2) [e] [] pos2) X.env) :: Ho pos (f_ [] X.env))) _ _ s
 refine Mr ?_
 refine Ix (dh I hg2 hm2 (u:=.type "set") (by decide +kernel) ?_ (by decide) (by decide))
 refine H_ (thn (ha.h pos2 pins s σ H _ I ⟨ρ,E,OutA.bind o fun ds vs H1 e1 rs o1=>(show ∃ ds,Reps X.K H1 ds vs∧Out X H1 (cO ds) Q from ⟨ds,rs,o1⟩)⟩) fun us s1 ⟨vs,H1,I1,r1,ds,rs,o1⟩=>?_) he2 hpl2
 have fin:∀ (ks:List Str) (h':Heap) (tk:Nat),ks.length≤59→Out X H1 (some (.ok (.lst ((isortB leS (ST.ddk ks)).map Dv.str)))) Q→ST.SetS X.prog X.w h' s1.heap.objs.size (ST.ddk ks)→(∀ b o,b < s1.heap.objs.size→s1.heap.get? b=some o→h'.get? b=some o)→k_ (p_ X.prog X.w) X.A (call (.builtin "sorted") [.ref s1.heap.objs.size]) (EP X pins σ Q) X.xe { s1 with heap:=h',toks:=tk }:=by
  intro ks h' tk hk o1 hS hkp
  refine ST.sorted_set (I1.ok.hd hc) hS fun l h2 d tk2 out e0 a1 a2 a3 a4=>?_
  have hlt:s1.heap.objs.size≤l:=by
   obtain ⟨_,_,_,_,q,_⟩:=hS
   exact Jj (x_ (o_ q) a3)
  refine ⟨.ref l,_,rD (I1.laid (h':=h2) (t':=tk2) (o:=.lst ((isortB leS (ST.ddk ks)).map V.str)) (fun b ob q=>a4 _ _ (hkp b ob (o_ q) q)) hlt ?_) d,rfl,o1 _ _ (aq (I1.hok.fresh hlt) _) ⟨l,_,rfl,ak,iW _ _⟩⟩
  exact ⟨line64 (by rw [HF,(isortB_perm leS _).length_eq]; have:=ST.ddk_le ks; omega),out,e0,iV a1,by simpa [Ii] using a2⟩
 unfold cO at o1
 split at o1
 · rename_i es
   obtain ⟨v,rfl,r⟩:=bD rs
   obtain ⟨l,xs,rfl,hl,rx⟩:=r.lstE
   obtain ⟨u,rfl,ru⟩:=cT r1
   cases (show u=xy l from ru)
   split at o1
   · rename_i ks hks
     split at o1
     · rename_i hnd
       obtain ⟨z,its,n,rv,hz,eh⟩:=I1.lstM hl
       obtain ⟨q1,q2⟩:=jG (jE hks rx rv)
       have hsz:its.toArray.size=ks.length:=by simp [q1]
       refine ST.call_set_L2 (items:=its.toArray) (key:=fun i=>ks.getD i "") (I1.ok.hd hc) ⟨_,eh,rfl,n,rfl⟩ (fun i v hi=>q2 i v (by simpa using hi)) (by rw [hsz]; exact hnd) fun h' tk hS hkp=>?_
       refine Lv ?_
       rw [range_getD ks "" _ hsz] at hS
       exact fin ks h' tk hnd o1 hS hkp
     · exact o1.elim
   · exact o1.elim
 · rename_i es
   obtain ⟨v,rfl,r⟩:=bD rs
   obtain ⟨l,xs,rfl,hl,rx⟩:=r.tupE
   obtain ⟨u,rfl,ru⟩:=cT r1
   cases (show u=xy l from ru)
   split at o1
   · rename_i ks hks
     split at o1
     · rename_i hnd
       obtain ⟨its,rv,pl,hz⟩:=I1.tuple (SqT.of hl)
       obtain ⟨q1,q2⟩:=jG (jE hks rx rv)
       have hsz:its.toArray.size=ks.length:=by simp [q1]
       refine ST.call_set_T2 (items:=its.toArray) (key:=fun i=>ks.getD i "") (I1.ok.hd hc) pl (fun i v hi=>q2 i v (by simpa using hi)) (by rw [hsz]; exact hnd) fun h' tk hS hkp=>?_
       refine Lv ?_
       rw [range_getD ks "" _ hsz] at hS
       exact fin ks h' tk hnd o1 hS hkp
     · exact o1.elim
   · exact o1.elim
 · exact o1.elim⟩
end
end FD
namespace TS
open PySem PyProof.Rows
section logic
variable {M:MD} {A:w_} {E:Value→c_→Prop} {J:c_→Prop} {σ α β:Type}
def wpJ (M:MD) (A:w_) (E:Value→c_→Prop) (J:c_→Prop) (m:StateT σ Sem α) (Q:α→σ→Prop) (st:σ):Prop :=
 ∀ s,J s→k_ M A (m.run st) (fun r s'=>J s'∧Q r.1 r.2) E s
theorem bc {a:α} {Q:α→σ→Prop} {st:σ} (h:Q a st):wpJ M A E J (pure a:StateT σ Sem α) Q st:=fun s hs=>by
 rw [Pf]
 exact d_ ⟨hs,h⟩
theorem aM {m:StateT σ Sem α} {f:α→StateT σ Sem β} {Q:β→σ→Prop} {st:σ} (h:wpJ M A E J m (fun a st'=>wpJ M A E J (f a) Q st') st):wpJ M A E J (m >>= f) Q st:=fun s hs=>by
 rw [StateT.run_bind]
 exact b_ (HI (h s hs) (fun r s' h'=>h'.2 s' h'.1) fun _ _ e=>e)
theorem kQ {m:StateT σ Sem α} {Q Q':α→σ→Prop} {st:σ} (h:wpJ M A E J m Q st) (hq:∀ a st',Q a st'→Q' a st'):wpJ M A E J m Q' st:=fun s hs =>
 HI (h s hs) (fun r _ h'=>⟨h'.1,hq _ _ h'.2⟩) fun _ _ e=>e
theorem oZ {Q:σ→σ→Prop} {st:σ} (h:Q st st):wpJ M A E J (get:StateT σ Sem σ) Q st:=fun s hs=>by
 rw [StateT.run_get]
 exact d_ ⟨hs,h⟩
theorem gH {f:σ→σ} {Q:PUnit→σ→Prop} {st:σ} (h:Q ⟨⟩ (f st)):wpJ M A E J (modify f:StateT σ Sem PUnit) Q st:=fun s hs=>by
 rw [StateT.run_modify]
 exact d_ ⟨hs,h⟩
theorem rE {m:Sem α} {Q:α→σ→Prop} {st:σ} (h:∀ s,J s→k_ M A m (fun a s'=>J s'∧Q a st) E s):wpJ M A E J (liftM m:StateT σ Sem α) Q st:=fun s hs=>by
 show k_ M A ((StateT.lift m:StateT σ Sem α).run st) _ E s
 rw [StateT.run_lift]
 exact b_ (HI (h s hs) (fun a s' h'=>d_ h') fun _ _ e=>e)
theorem BD (f:Nat→β→StateT σ Sem (ForInStep β)) (I:Nat→β→σ→Prop) (Q:β→σ→Prop) (b:Nat)
 (step:∀ i c st,i < b→I i c st→wpJ M A E J (f i c) (fun r st'=>match r with | .done c'=>Q c' st' | .yield c'=>I (i + 1) c' st') st)
 (fin:∀ c st,I b c st→Q c st):∀ (n a:Nat) (c:β) (st:σ),a + n=b→I a c st→wpJ M A E J (PN (List.range' a n 1) c f) Q st
 | 0,a,c,st,e,h=>by
  rw [List.range'_zero,NQ]
  have:a=b:=by omega
  subst this
  exact bc (fin c st h)
 | n + 1,a,c,st,e,h=>by
  rw [List.range'_succ,Pi]
  refine aM (kQ (step a c st (by omega) h) fun r st' h'=>?_)
  cases r with
  | done c'=>exact bc h'
  | yield c'=>exact BD f I Q b step fin n (a + 1) c' st' (by omega) h'
theorem fT {a b:Nat} {f:Nat→β→StateT σ Sem (ForInStep β)} (I:Nat→β→σ→Prop) {Q:β→σ→Prop} (hab:a≤b)
 (step:∀ i c st,i < b→I i c st→wpJ M A E J (f i c) (fun r st'=>match r with | .done c'=>Q c' st' | .yield c'=>I (i + 1) c' st') st)
 (fin:∀ c st,I b c st→Q c st) {c:β} {st:σ} (h:I a c st):wpJ M A E J (PN [a:b] c f) Q st:=by
 rw [Std.Legacy.Range.forIn_eq_forIn_range']
 have hsz:([a:b]:OO).size=b - a:=by simp [Std.Legacy.Range.size]
 show wpJ M A E J (PN (List.range' a ([a:b]:OO).size 1) c f) Q st
 rw [hsz]
 exact BD f I Q b step fin (b - a) a c st (by omega) h
end logic
structure Od (blt:Nat→Nat→Bool):Prop where
 ir:∀ a,blt a a=false
 tr:∀ a b c,blt a b=true→blt b c=true→blt a c=true
 nt:∀ a b c,blt a c=true→blt a b=true∨blt b c=true
def Lex (blt:Nat→Nat→Bool) (a b:Nat):Prop:=blt a b=true∨(blt b a=false∧a < b)
section order
variable {blt:Nat→Nat→Bool}
theorem Od.le (O:Od blt) {a b c:Nat} (h1:blt b a=false) (h2:blt c b=false):blt c a=false:=by
 cases h:blt c a with
 | false=>rfl
 | true =>
  rcases O.nt _ b _ h with q | q
  · rw [q] at h2; cases h2
  · rw [q] at h1; cases h1
theorem Od.lt_le (O:Od blt) {a b c:Nat} (h1:blt a b=true) (h2:blt c b=false):blt a c=true:=by
 rcases O.nt _ c _ h1 with q | q
 · exact q
 · rw [q] at h2; cases h2
theorem Od.le_lt (O:Od blt) {a b c:Nat} (h1:blt b a=false) (h2:blt b c=true):blt a c=true:=by
 rcases O.nt _ a _ h2 with q | q
 · rw [q] at h1; cases h1
 · exact q
theorem Od.as (O:Od blt) {a b:Nat} (h:blt a b=true):blt b a=false:=by
 cases h':blt b a with
 | false=>rfl
 | true=>have:=O.tr _ _ _ h h'; rw [O.ir] at this; cases this
theorem Lex.tr (O:Od blt) {a b c:Nat} (h1:Lex blt a b) (h2:Lex blt b c):Lex blt a c:=by
 rcases h1 with h1 | ⟨h1,i1⟩
 · rcases h2 with h2 | ⟨h2,i2⟩
   · exact .inl (O.tr _ _ _ h1 h2)
   · exact .inl (O.lt_le h1 h2)
 · rcases h2 with h2 | ⟨h2,i2⟩
   · exact .inl (O.le_lt h1 h2)
   · exact .inr ⟨O.le h1 h2,by omega⟩
theorem Lex.of_le {a b:Nat} (h:blt b a=false) (i:a < b):Lex blt a b:=.inr ⟨h,i⟩
end order
structure SB (a₀:Array OH) (kd:M5) (p:Nat→Nat) (st:Lx):Prop where
 sz:(LX st).size=a₀.size
 at':∀ k,k < a₀.size→(LX st)[k]?=a₀[p k]?
 lt:∀ k,k < a₀.size→p k < a₀.size
 inj:∀ a b,a < a₀.size→b < a₀.size→p a=p b→a=b
 kind:kindOf st=kd
 failed:OG st=none
 pend:M4 st=#[]
def mir (p:Nat→Nat) (i j k:Nat):Nat:=if i≤k∧k < j then p (i + j - 1 - k) else p k
def bub (p:Nat→Nat) (src dst k:Nat):Nat:=if k=dst then p src else if dst < k∧k≤src then p (k - 1) else p k
section state
variable {a₀:Array OH} {kd:M5} {p:Nat→Nat} {st:Lx}
theorem SB.mirror (B:SB a₀ kd p st) {i j:Nat} (hj:j≤a₀.size):SB a₀ kd (mir p i j) (setArr st (mirror (LX st) i j ((j - i) / 2))) where
 sz:=(mirror_size _ _ _ _).trans B.sz
 at':=fun k hk=>by
  show (PyProof.Rows.mirror (LX st) i j ((j - i) / 2))[k]?=_
  rw [getElem?_mirror_all (by rw [B.sz]; exact hj)]
  unfold mir
  split
  · exact B.at' _ (by omega)
  · exact B.at' _ hk
 lt:=fun k hk=>by
  unfold mir
  split
  · exact B.lt _ (by omega)
  · exact B.lt _ hk
 inj:=fun a b ha hb e=>by
  unfold mir at e
  split at e <;> split at e
  · have:=B.inj _ _ (by omega) (by omega) e; omega
  · have:=B.inj _ _ (by omega) hb e; omega
  · have:=B.inj _ _ ha (by omega) e; omega
  · exact B.inj _ _ ha hb e
 kind:=B.kind
 failed:=B.failed
 pend:=B.pend
theorem SB.bubble (B:SB a₀ kd p st) {src dst:Nat} (hs:src < a₀.size) (hd:dst≤src):SB a₀ kd (bub p src dst) (setArr st (bubble (LX st) src (src - dst))) where
 sz:=(bubble_size _ _ _).trans B.sz
 at':=fun k hk=>by
  show (PyProof.Rows.bubble (LX st) src (src - dst))[k]?=_
  rw [getElem?_bubble (by rw [B.sz]; exact hs) _ (by omega),show src - (src - dst)=dst by omega]
  unfold bub
  split
  · exact B.at' _ hs
  · split
    · exact B.at' _ (by omega)
    · exact B.at' _ hk
 lt:=fun k hk=>by
  unfold bub
  split
  · exact B.lt _ hs
  · split
    · exact B.lt _ (by omega)
    · exact B.lt _ hk
 inj:=fun a b ha hb e=>by
  unfold bub at e
  repeat' split at e
  all_goals first
   | omega
   | (have:=B.inj _ _ (by omega) (by omega) e; omega)
 kind:=B.kind
 failed:=B.failed
 pend:=B.pend
end state
def Cm (M:MD) (A:w_) (J:c_→Prop) (a₀:Array OH) (kd:M5) (blt:Nat→Nat→Bool):Prop :=
 ∀ (i j:Nat) (x y:OH) (s:c_) (E':Value→c_→Prop),a₀[i]?=some x→a₀[j]?=some y→J s→k_ M A (keyLt' kd x.1 y.1) (fun b s'=>J s'∧b=blt i j) E' s
section
variable {M:MD} {A:w_} {E:Value→c_→Prop} {J:c_→Prop} {a₀:Array OH} {kd:M5} {blt:Nat→Nat→Bool} {p:Nat→Nat} {st:Lx}
theorem BE {i j:Nat} {Q:Option Bool→Lx→Prop} (C:Cm M A J a₀ kd blt) (B:SB a₀ kd p st) (hi:i < a₀.size) (hj:j < a₀.size) (h:Q (some (blt (p i) (p j))) st):wpJ M A E J (ltAt' i j) Q st:=by
 have e1:(LX st)[i]?=some (a₀[p i]'(B.lt i hi)):=by rw [B.at' i hi]; simp [B.lt i hi]
 have e2:(LX st)[j]?=some (a₀[p j]'(B.lt j hj)):=by rw [B.at' j hj]; simp [B.lt j hj]
 rw [ltAt'_eq]
 refine aM (oZ ?_)
 show wpJ M A E J (do let x ← elem' (LX st) i; let y ← elem' (LX st) j; lt' x y) Q st
 rw [elem'_eq,elem'_eq,e1,e2]
 refine aM (bc (aM (bc ?_)))
 rw [lt'_eq]
 refine aM (oZ ?_)
 rw [B.kind]
 refine aM (rE fun s hs=>Jg (HI (C (p i) (p j) _ _ s _ (by simp [B.lt i hi]) (by simp [B.lt j hj]) hs) (fun b s' h'=>?_) fun _ _ e=>e))
 obtain ⟨h1,rfl⟩:=h'
 exact ⟨h1,bc h⟩
theorem uZ {i j:Nat} {Q:Unit→Lx→Prop} (h:Q () (setArr st (mirror (LX st) i j ((j - i) / 2)))):wpJ M A E J (reverseSlice' i j) Q st:=by
 rw [reverseSlice'_eq]; exact gH h
structure Up (blt:Nat→Nat→Bool) (p:Nat→Nat) (n N:Nat):Prop where
 so:∀ a b,a < b→b < n→Lex blt (p a) (p b)
 lo:∀ a,a < n→p a < n
 re:∀ a,n≤a→a < N→p a=a
theorem Up.next (O:Od blt) {n N:Nat} (U:Up blt p n N) (h1:1≤n) (hn:n < N) (h:blt (p n) (p (n - 1))=false):Up blt p (n + 1) N where
 so:=fun a b hab hb=>by
  by_cases hbn:b < n
  · exact U.so a b hab hbn
  · have hb':b=n:=by omega
    subst hb'
    have last:Lex blt (p (b - 1)) (p b):=.of_le h (by rw [U.re b (n_ _) hn]; exact U.lo _ (by omega))
    by_cases ha:a=b - 1
    · subst ha; exact last
    · exact (U.so a (b - 1) (by omega) (by omega)).tr O last
 lo:=fun a ha=>by
  by_cases han:a < n
  · have:=U.lo a han; omega
  · have:a=n:=by omega
    subst this
    rw [U.re a (n_ _) hn]
    omega
 re:=fun a ha hN=>U.re a (by omega) hN
theorem BF {a nrem:Nat} {Q:AscSt→Lx→Prop} (O:Od blt) (C:Cm M A J a₀ kd blt) (B:SB a₀ kd p st) (ha:1≤a) (han:a≤nrem) (hn:nrem≤a₀.size) (U:Up blt p a a₀.size)
 (h:∀ n,a≤n→n≤nrem→Up blt p n a₀.size→(n=nrem∨blt (p n) (p (n - 1))=true)→Q (none,n) st):wpJ M A E J (ascLoop a nrem) Q st:=by
 unfold ascLoop
 refine fT (I:=fun x c st'=>st'=st∧c=(none,x)∧a≤x∧Up blt p x a₀.size) han ?_ ?_ ⟨rfl,rfl,n_ _,U⟩
 · rintro x c st' hx ⟨rfl,rfl,hax,U'⟩
   dsimp only
   refine aM (BE C B (by omega) (by omega) ?_)
   cases hl:blt (p x) (p (x - 1)) with
   | true =>
    simp only [if_true]
    exact bc (h x hax (by omega) U' (.inr hl))
   | false =>
    simp only [rl,if_false]
    exact bc ⟨rfl,rfl,by omega,U'.next O (by omega) (by omega) hl⟩
 · rintro c st' ⟨rfl,rfl,hax,U'⟩
   exact h nrem hax (n_ _) U' (.inl rfl)
structure Dn (blt:Nat→Nat→Bool) (p:Nat→Nat) (n N:Nat):Prop where
 so:∀ a b,a < b→b < n→Lex blt (p b) (p a)
 lo:∀ a,a < n→p a < n
 re:∀ a,n≤a→a < N→p a=a
structure Dq (blt:Nat→Nat→Bool) (p:Nat→Nat) (c n N:Nat):Prop where
 cn:c < n
 d1:∀ a b,a < b→b < c→Lex blt (p b) (p a)
 d2:∀ a b,a < c→c≤b→b < n→blt (p b) (p a)=true
 d3:∀ a b,c≤a→a < b→b < n→blt (p a) (p b)=false∧blt (p b) (p a)=false∧p a < p b
 lo:∀ a,a < n→p a < n
 re:∀ a,n≤a→a < N→p a=a
theorem Dq.turn {c n N:Nat} (D:Dq blt p c n N):Dn blt (mir p c n) n N where
 so:=fun a b hab hb=>by
  unfold mir
  by_cases hbc:c≤b
  · rw [if_pos ⟨hbc,hb⟩]
    by_cases hac:c≤a
    · rw [if_pos ⟨hac,by omega⟩]
      have:=D.d3 (c + n - 1 - b) (c + n - 1 - a) (by omega) (by omega) (by omega)
      exact .inr ⟨this.2.1,this.2.2⟩
    · rw [if_neg (by omega)]
      exact .inl (D.d2 a _ (by omega) (by omega) (by omega))
  · rw [if_neg (by omega),if_neg (by omega)]
    exact D.d1 a b hab (by omega)
 lo:=fun a ha=>by
  unfold mir
  split
  · exact D.lo _ (by omega)
  · exact D.lo _ ha
 re:=fun a ha hN=>by
  unfold mir
  rw [if_neg (by omega)]
  exact D.re a ha hN
theorem Dq.one {n N:Nat} (D:Dq blt p (n - 1) n N):Dn blt p n N where
 so:=fun a b hab hb=>by
  by_cases hbc:b < n - 1
  · exact D.d1 a b hab hbc
  · exact .inl (D.d2 a b (by omega) (by omega) hb)
 lo:=D.lo
 re:=D.re
theorem Dn.turn {n N:Nat} (D:Dn blt p n N):Up blt (mir p 0 n) n N where
 so:=fun a b hab hb=>by
  unfold mir
  rw [if_pos ⟨Hq _,by omega⟩,if_pos ⟨Hq _,hb⟩]
  exact D.so _ _ (by omega) (by omega)
 lo:=fun a ha=>by
  unfold mir
  rw [if_pos ⟨Hq _,ha⟩]
  exact D.lo _ (by omega)
 re:=fun a ha hN=>by
  unfold mir
  rw [if_neg (by omega)]
  exact D.re a ha hN
theorem Dn.next (O:Od blt) {n N:Nat} (D:Dn blt p n N) (h1:1≤n) (hn:n < N) (h:blt (p n) (p (n - 1))=true):Dq blt p n (n + 1) N where
 cn:=by omega
 d1:=D.so
 d2:=fun a b ha hb hb'=>by
  have:b=n:=by omega
  subst this
  by_cases e:a=b - 1
  · subst e; exact h
  · rcases D.so a (b - 1) (by omega) (by omega) with q | ⟨q,_⟩
    · exact O.tr _ _ _ h q
    · exact O.lt_le h q
 d3:=fun a b ha hab hb=>by omega
 lo:=fun a ha=>by
  by_cases han:a < n
  · have:=D.lo a han; omega
  · have:a=n:=by omega
    subst this
    rw [D.re a (n_ _) hn]
    omega
 re:=fun a ha hN=>D.re a (by omega) hN
theorem Dq.next (O:Od blt) {c n N:Nat} (D:Dq blt p c n N) (hn:n < N) (h1:blt (p n) (p (n - 1))=false) (h2:blt (p (n - 1)) (p n)=false):Dq blt p c (n + 1) N where
 cn:=by have:=D.cn; omega
 d1:=D.d1
 d2:=fun a b ha hb hb'=>by
  by_cases hbn:b < n
  · exact D.d2 a b ha hb hbn
  · have:b=n:=by omega
    subst this
    exact O.le_lt h2 (D.d2 a (b - 1) ha (by have:=D.cn; omega) (by omega))
 d3:=fun a b ha hab hb=>by
  by_cases hbn:b < n
  · exact D.d3 a b ha hab hbn
  · have:b=n:=by omega
    subst this
    have hlt:p a < p b:=by
     have:=D.lo a (by omega)
     rw [D.re b (n_ _) hn]
     exact this
    by_cases e:a=b - 1
    · subst e; exact ⟨h2,h1,hlt⟩
    · obtain ⟨q1,q2,_⟩:=D.d3 a (b - 1) ha (by omega) (by omega)
      exact ⟨O.le h2 q1,O.le q2 h1,hlt⟩
 lo:=fun a ha=>by
  by_cases han:a < n
  · have:=D.lo a han; omega
  · have:a=n:=by omega
    subst this
    rw [D.re a (n_ _) hn]
    omega
 re:=fun a ha hN=>D.re a (by omega) hN
theorem rF {n nrem:Nat} {Q:Option Nat→Lx→Prop} (O:Od blt) (C:Cm M A J a₀ kd blt) (B:SB a₀ kd p st) (h1:1≤n) (hnn:n≤nrem) (hn:nrem≤a₀.size) (D:Dn blt p n a₀.size)
 (h:∀ m p' st',SB a₀ kd p' st'→1≤m→m≤nrem→Up blt p' m a₀.size→Q (some m) st'):wpJ M A E J (tail3 n nrem) Q st:=by
 unfold tail3
 refine aM (uZ ?_)
 have B':=B.mirror (i:=0) (j:=n) (by omega)
 exact aM (BF O C B' h1 hnn hn D.turn fun m hm1 hm2 U _=>bc (h m _ _ B' (by omega) hm2 U))
theorem BG {n nrem:Nat} {Q:DescSt→Lx→Prop} (O:Od blt) (C:Cm M A J a₀ kd blt) (B:SB a₀ kd p st) (h1:2≤n) (hnn:n≤nrem) (hn:nrem≤a₀.size) (D:Dq blt p (n - 1) n a₀.size)
 (h:∀ m neq p' st',SB a₀ kd p' st'→n≤m→m≤nrem→neq + 1≤m→Dq blt p' (m - (neq + 1)) m a₀.size→Q (none,m,neq) st'):wpJ M A E J (descLoop n nrem) Q st:=by
 unfold descLoop
 refine fT (I:=fun x c st'=>∃ neq p',c=(none,x,neq)∧SB a₀ kd p' st'∧n≤x∧neq + 1≤x∧Dq blt p' (x - (neq + 1)) x a₀.size) hnn ?_ ?_ ⟨0,p,rfl,B,n_ _,by omega,D⟩
 · rintro x c st' hx ⟨neq,p',rfl,B',hax,hq,D'⟩
   dsimp only
   refine aM (BE C B' (by omega) (by omega) ?_)
   cases hl:blt (p' x) (p' (x - 1)) with
   | true =>
    simp only [if_true]
    by_cases hneq:neq > 0
    · rw [if_pos hneq]
      refine aM (uZ (bc ?_))
      have B2:=B'.mirror (i:=x - (neq + 1)) (j:=x) (by omega)
      refine ⟨0,_,rfl,B2,by omega,by omega,?_⟩
      have D2:=D'.turn
      have hc:=D'.cn
      refine D2.next O (by omega) (by omega) ?_
      have e1:mir p' (x - (neq + 1)) x x=p' x:=by unfold mir; rw [if_neg (by omega)]
      have e2:mir p' (x - (neq + 1)) x (x - 1)=p' (x - (neq + 1)):=by unfold mir; rw [if_pos (by omega)]; congr 1; omega
      rw [e1,e2]
      by_cases e:x - (neq + 1)=x - 1
      · rw [e]; exact hl
      · exact O.lt_le hl (D'.d3 (x - (neq + 1)) (x - 1) (n_ _) (by omega) (by omega)).1
    · rw [if_neg hneq]
      have e:neq=0:=by omega
      subst e
      exact bc ⟨0,p',rfl,B',by omega,by omega,D'.one.next O (by omega) (by omega) hl⟩
   | false =>
    simp only [rl,if_false]
    refine aM (BE C B' (by omega) (by omega) ?_)
    cases hg:blt (p' (x - 1)) (p' x) with
    | true =>
     simp only [if_true]
     exact bc (h x neq p' st' B' hax (by omega) hq D')
    | false =>
     simp only [rl,if_false]
     refine bc ⟨neq + 1,p',rfl,B',by omega,by omega,?_⟩
     have:=D'.next O (by omega) hl hg
     rwa [show x + 1 - (neq + 1 + 1)=x - (neq + 1) by omega]
 · rintro c st' ⟨neq,p',rfl,B',hax,hq,D'⟩
   exact h nrem neq p' st' B' hax (n_ _) hq D'
theorem iX {n nrem:Nat} {Q:Option Nat→Lx→Prop} (O:Od blt) (C:Cm M A J a₀ kd blt) (B:SB a₀ kd p st) (h1:1≤n) (hnn:n + 1≤nrem) (hn:nrem≤a₀.size) (D:Dq blt p n (n + 1) a₀.size)
 (h:∀ m p' st',SB a₀ kd p' st'→1≤m→m≤nrem→Up blt p' m a₀.size→Q (some m) st'):wpJ M A E J (descPart n nrem) Q st:=by
 unfold descPart
 refine aM (rE fun s hs=>JP ⟨hs,?_⟩)
 refine aM (BG O C B (by omega) hnn hn D fun m neq p' st' B' hm1 hm2 hq D'=>?_)
 dsimp only
 by_cases hneq:neq > 0
 · rw [if_pos hneq]
   exact aM (uZ (rF O C (B'.mirror (by omega)) (by omega) hm2 hn D'.turn h))
 · rw [if_neg hneq]
   have e:neq=0:=by omega
   subst e
   exact rF O C B' (by omega) hm2 hn D'.one h
theorem x4 {nrem:Nat} {Q:Option Nat→Lx→Prop} (O:Od blt) (C:Cm M A J a₀ kd blt) (B:SB a₀ kd p st) (h1:1≤nrem) (hn:nrem≤a₀.size) (hp:∀ k,k < a₀.size→p k=k)
 (h:∀ m p' st',SB a₀ kd p' st'→1≤m→m≤nrem→Up blt p' m a₀.size→Q (some m) st'):wpJ M A E J (countRun' 0 nrem) Q st:=by
 rw [countRun0_eq]
 refine aM (BF O C B (n_ 1) h1 hn ⟨fun a b hab hb=>by omega,fun a ha=>by rw [hp a (by omega)]; exact ha,fun a _ hN=>hp a hN⟩ fun n hn1 hn2 U hor=>?_)
 dsimp only
 by_cases hnn:n=nrem
 · rw [if_pos (by simpa using hnn)]
   exact bc (h n p st B hn1 hn2 U)
 · rw [if_neg (by simpa using hnn)]
   have hlt:blt (p n) (p (n - 1))=true:=hor.resolve_left hnn
   by_cases hgt:n > 1
   · rw [if_pos hgt]
     refine aM (BE C B (by omega) (by omega) ?_)
     cases hr:blt (p 0) (p (n - 1)) with
     | true =>
      simp only [if_true]
      exact bc (h n p st B hn1 hn2 U)
     | false =>
      simp only [rl,if_false]
      have B':=B.mirror (i:=0) (j:=n) (by omega)
      have le0:∀ a,a < n→blt (p a) (p 0)=false:=fun a ha=>by
       by_cases e:a=0
       · subst e; exact O.ir _
       · rcases U.so 0 a (by omega) ha with q | q
         · exact O.as q
         · exact q.1
      have leN:∀ a,a < n→blt (p (n - 1)) (p a)=false:=fun a ha=>by
       by_cases e:a=n - 1
       · subst e; exact O.ir _
       · rcases U.so a (n - 1) (by omega) (by omega) with q | q
         · exact O.as q
         · exact q.1
      have eq:∀ a b,a < n→b < n→blt (p a) (p b)=false:=fun a b ha hb=>O.le (leN b hb) (O.le hr (le0 a ha))
      have D:Dq blt (mir p 0 n) n (n + 1) a₀.size:=by
       have Dm:Dn blt (mir p 0 n) n a₀.size:=⟨fun a b hab hb=>by
        unfold mir
        rw [if_pos ⟨Hq _,hb⟩,if_pos ⟨Hq _,by omega⟩]
        refine .of_le (eq _ _ (by omega) (by omega)) ?_
        rw [hp _ (by omega),hp _ (by omega)]
        omega,fun a ha=>by
        unfold mir
        rw [if_pos ⟨Hq _,ha⟩,hp _ (by omega)]
        omega,fun a ha hN=>by
        unfold mir
        rw [if_neg (by omega),hp _ hN]⟩
       refine Dm.next O (by omega) (by omega) ?_
       have e1:mir p 0 n n=p n:=by unfold mir; rw [if_neg (by omega)]
       have e2:mir p 0 n (n - 1)=p 0:=by unfold mir; rw [if_pos (by omega)]; congr 1; omega
       rw [e1,e2]
       exact O.lt_le hlt (eq 0 (n - 1) (by omega) (by omega))
      exact aM (uZ (iX O C B' (by omega) (by omega) hn D h))
   · rw [if_neg hgt]
     have hn1':n=1:=by omega
     subst hn1'
     refine iX O C B (by omega) (by omega) hn ?_ h
     have Dm:Dn blt p 1 a₀.size:=⟨fun a b hab hb=>by omega,U.lo,U.re⟩
     exact Dm.next O (by omega) (by omega) hlt
theorem ES {n ok:Nat} {Q:Bool→Lx→Prop} (O:Od blt) (C:Cm M A J a₀ kd blt) (B:SB a₀ kd p st) (hok:1≤ok) (hon:ok≤n) (hn:n≤a₀.size) (U:Up blt p ok a₀.size)
 (h:∀ p' st',SB a₀ kd p' st'→Up blt p' n a₀.size→Q true st'):wpJ M A E J (binarySort' 0 n ok) Q st:=by
 rw [binarySort'_eq]
 simp only [Jr]
 rw [show max ok 1=ok by omega]
 refine aM (kQ (fT (I:=fun k c st'=>∃ p',c=(none,())∧ok≤k∧SB a₀ kd p' st'∧Up blt p' k a₀.size) (Q:=fun c st'=>∃ p',c=(none,())∧SB a₀ kd p' st'∧Up blt p' n a₀.size) hon ?_ ?_ ⟨p,rfl,n_ _,B,U⟩) ?_)
 · rintro k c st' hk ⟨p',rfl,hok',B',U'⟩
   have hpk:p' k=k:=U'.re k (n_ _) (by omega)
   refine aM (kQ (fT (I:=fun x c st''=>st''=st'∧∃ l r,c=(none,l,r)∧l≤r∧r≤k∧r - l≤k - x∧(∀ i,i < l→blt (p' k) (p' i)=false)∧(∀ i,r≤i→i < k→blt (p' k) (p' i)=true))
    (Q:=fun c st''=>st''=st'∧∃ l r,c=(none,l,r)∧l≤k∧(∀ i,i < l→blt (p' k) (p' i)=false)∧(∀ i,l≤i→i < k→blt (p' k) (p' i)=true)) (Hq k) ?_ ?_ ⟨rfl,0,k,rfl,by omega,by omega,by omega,fun i hi=>by omega,fun i h1 h2=>by omega⟩) ?_)
   · rintro x c st'' hx ⟨rfl,l,r,rfl,hlr,hrk,hm,hlo,hhi⟩
     dsimp only
     by_cases hge:l ≥ r
     · rw [if_pos hge]
       have:l=r:=by omega
       subst this
       exact bc ⟨rfl,l,l,rfl,hrk,hlo,hhi⟩
     · rw [if_neg hge]
       refine aM (BE C B' (by omega) (by omega) ?_)
       cases hless:blt (p' k) (p' ((l + r) / 2)) with
       | true =>
        simp only [if_true]
        refine bc ⟨rfl,l,(l + r) / 2,rfl,by omega,by omega,by omega,hlo,fun i i1 i2=>?_⟩
        by_cases e:i=(l + r) / 2
        · subst e; exact hless
        · rcases U'.so ((l + r) / 2) i (by omega) i2 with q | q
          · exact O.tr _ _ _ hless q
          · exact O.lt_le hless q.1
       | false =>
        simp only [rl,if_false]
        refine bc ⟨rfl,(l + r) / 2 + 1,r,rfl,by omega,by omega,by omega,fun i i1=>?_,hhi⟩
        by_cases e:i=(l + r) / 2
        · subst e; exact hless
        · rcases U'.so i ((l + r) / 2) (by omega) (by omega) with q | q
          · exact O.le (O.as q) hless
          · exact O.le q.1 hless
   · rintro c st'' ⟨rfl,l,r,rfl,hlr,hrk,hm,hlo,hhi⟩
     have:l=r:=by omega
     subst this
     exact ⟨rfl,l,l,rfl,hrk,hlo,hhi⟩
   · rintro c st'' ⟨rfl,l,r,rfl,hlk,hlo,hhi⟩
     show wpJ M A E J (do moveDown' k l; pure (L_ (none,()))) _ _
     rw [moveDown'_eq]
     refine aM (gH (bc ⟨bub p' k l,rfl,by omega,B'.bubble (by omega) hlk,?_⟩))
     refine ⟨fun a b hab hb=>?_,fun a ha=>?_,fun a ha hN=>?_⟩
     · have c1:bub p' k l l=p' k:=by unfold bub; rw [if_pos rfl]
       have c2:∀ x,l < x→x≤k→bub p' k l x=p' (x - 1):=fun x h1 h2=>by unfold bub; rw [if_neg (by omega),if_pos ⟨h1,h2⟩]
       have c3:∀ x,x < l→bub p' k l x=p' x:=fun x h1=>by unfold bub; rw [if_neg (by omega),if_neg (by omega)]
       by_cases hbl:b=l
       · subst hbl
         rw [c1,c3 a hab]
         exact .of_le (hlo a (by omega)) (by rw [hpk]; exact U'.lo a (by omega))
       · by_cases hbg:l < b
         · rw [c2 b hbg (by omega)]
           by_cases hal:a=l
           · subst hal
             rw [c1]
             exact .inl (hhi (b - 1) (by omega) (by omega))
           · by_cases hag:l < a
             · rw [c2 a hag (by omega)]
               exact U'.so (a - 1) (b - 1) (by omega) (by omega)
             · rw [c3 a (by omega)]
               exact U'.so a (b - 1) (by omega) (by omega)
         · rw [c3 a (by omega),c3 b (by omega)]
           exact U'.so a b hab (by omega)
     · unfold bub
       split
       · rw [hpk]; omega
       · split
         · have:=U'.lo (a - 1) (by omega); omega
         · have:=U'.lo a (by omega); omega
     · unfold bub
       rw [if_neg (by omega),if_neg (by omega)]
       exact U'.re a (by omega) hN
 · rintro c st' ⟨p',rfl,_,B',U'⟩
   exact ⟨p',rfl,B',U'⟩
 · rintro c st' ⟨p',rfl,B',U'⟩
   exact bc (h p' st' B' U')
end
section
variable {M:MD} {A:w_} {E:Value→c_→Prop} {J:c_→Prop} {a₀:Array OH} {kd:M5} {blt:Nat→Nat→Bool} {p:Nat→Nat} {st:Lx}
structure ET (a₀:Array OH) (blt:Nat→Nat→Bool) (p:Nat→Nat) (xs:Array OH):Prop where
 sz:xs.size=a₀.size
 at':∀ k,k < a₀.size→xs[k]?=a₀[p k]?
 lt:∀ k,k < a₀.size→p k < a₀.size
 inj:∀ a b,a < a₀.size→b < a₀.size→p a=p b→a=b
 so:∀ a b,a < b→b < a₀.size→Lex blt (p a) (p b)
def Dne (a₀:Array OH) (blt:Nat→Nat→Bool) (st:Lx):Prop:=∃ p,ET a₀ blt p (LX st)∧OG st=none∧M4 st=#[(0,a₀.size,0)]
theorem SB.done (B:SB a₀ kd p st) (U:Up blt p a₀.size a₀.size):Dne a₀ blt (setPending st ((M4 st).push (0,a₀.size,0))) :=
 ⟨p,⟨B.sz,B.at',B.lt,B.inj,U.so⟩,B.failed,by show (M4 st).push _=_; rw [B.pend]; rfl⟩
theorem BH {Q:Unit→Lx→Prop} (O:Od blt) (C:Cm M A J a₀ kd blt) (B:SB a₀ kd p st) (hp:∀ k,k < a₀.size→p k=k) (h2:2≤a₀.size) (h64:a₀.size < 64)
 (h:∀ p' st',ET a₀ blt p' (LX st')→OG st'=none→Q () st'):wpJ M A E J sortRuns' Q st:=by
 rw [sortRuns'_eq]
 refine aM (oZ ?_)
 dsimp only
 have hmr:minRun' a₀.size a₀.size 0=a₀.size:=by
  obtain ⟨f,hf⟩:∃ f,a₀.size=f + 1:=⟨a₀.size - 1,by omega⟩
  have:minRun' (f + 1) a₀.size 0=a₀.size:=by rw [minRun'_succ,if_pos h64]; rfl
  rwa [← hf] at this
 simp only [B.sz,hmr]
 refine aM (kQ (fT (I:=fun x c st'=>(x=0∧c=(none,0)∧SB a₀ kd p st')∨(1≤x∧c=(none,a₀.size)∧Dne a₀ blt st')) (Q:=fun c st'=>c=(none,a₀.size)∧Dne a₀ blt st') (Hq _) ?_ ?_ (.inl ⟨rfl,rfl,B⟩)) ?_)
 · rintro x c st' hx (⟨rfl,rfl,B'⟩ | ⟨hx1,rfl,D⟩)
   · dsimp only
     rw [if_neg (by omega)]
     simp only [Nat.sub_zero,Nat.min_self,Jr]
     refine aM (x4 O C B' (by omega) (n_ _) hp fun m p2 st2 B2 hm1 hm2 U2=>?_)
     dsimp only
     by_cases hlt:m < a₀.size
     · rw [if_pos hlt]
       refine aM (rE fun s hs=>JP ⟨hs,?_⟩)
       refine aM (ES O C B2 hm1 hm2 (n_ _) U2 fun p3 st3 B3 U3=>?_)
       simp only [Kv,rl,if_false]
       refine aM (oZ ?_)
       have hb:(M4 st3).back?=none:=by rw [B3.pend]; rfl
       rw [hb]
       dsimp only
       exact aM (gH (bc (.inr ⟨by omega,rfl,B3.done U3⟩)))
     · rw [if_neg hlt]
       have hm:m=a₀.size:=by omega
       subst hm
       refine aM (oZ ?_)
       have hb:(M4 st2).back?=none:=by rw [B2.pend]; rfl
       rw [hb]
       dsimp only
       exact aM (gH (bc (.inr ⟨by omega,rfl,B2.done U2⟩)))
   · dsimp only
     rw [if_pos (n_ _)]
     exact bc ⟨rfl,D⟩
 · rintro c st' (⟨hx,_,_⟩ | ⟨_,hc,D⟩)
   · omega
   · exact ⟨hc,D⟩
 · rintro c st' ⟨rfl,pd,D1,D2,D3⟩
   dsimp only
   refine aM (kQ (fT (I:=fun _ c st''=>st''=st'∧c=(none,())) (Q:=fun c st''=>st''=st'∧c=(none,())) (Hq _) ?_ (fun _ _ hh=>hh) ⟨rfl,rfl⟩) ?_)
   · rintro x c st'' _ ⟨rfl,rfl⟩
     refine aM (oZ ?_)
     rw [if_pos (by rw [D3]; exact n_ 1)]
     exact bc ⟨rfl,rfl⟩
   · rintro c st'' ⟨rfl,rfl⟩
     exact bc (h pd _ D1 D2)
end
section
variable {prog:Program} {w:D_} {A:w_} {E:Value→c_→Prop} {s:c_} {blt:Nat→Nat→Bool} {Kd:M5→Prop}
def JT (s:c_) (H:Heap):c_→Prop:=fun s'=>∃ tk,s.toks≤tk∧s'={ s with heap:=H,toks:=tk }
end
theorem pb (b:Bool) (x y:Value):keyLt' (tuples' b) x y=(do
 let xs ← Lw x; let ys ← Lw y
 for ((p,q),i) in (xs.toList.zip ys.toList).zipIdx do
  if !(← eqBool p q) then return ← oneLt' (b && i == 0) p q
 return decide (xs.size < ys.size)):=rfl
theorem pc (v:Value):firstOfTuple' v=(do
 if (← N_ v) != .type "tuple" then return none
 return (← Lw v)[0]?):=rfl
def nH (A:w_) (p q:Value) (e l:Bool):Prop:=∀ (prog:Program) (w:D_) (E:Value→c_→Prop) (s:c_),
 (∀ Q:Bool→c_→Prop,Q e s→k_ (p_ prog w) A (eqBool p q) Q E s)∧(∀ (b:Bool) (Q:Bool→c_→Prop),Q l s→k_ (p_ prog w) A (oneLt' b p q) Q E s)
theorem nI (x:Bool) {M:MD} {A:w_} {E:Value→c_→Prop} {s:c_} {Q:Bool→c_→Prop} (h:Q x s):k_ M A (truthOfDropped (.bool x)) Q E s:=Jl h
theorem nJ (A:w_) (a b:Str) (t u:Tok):nH A (.str a t) (.str b u) (decide (a=b)) (decide (a.cps.toList < b.cps.toList)):=fun prog w E s =>
 ⟨fun Q h=>wpAny_eqBool_str h,fun b' Q h=>by
  cases b' with
  | true=>exact oneLt_str h
  | false =>
   rw [OY]
   simp only [rl,if_false]
   exact b_ (N2 (nI _ h):k_ (p_ prog w) A (Hu .Lt (.str a t) (.str b u)) _ E s)⟩
theorem nK (A:w_) (a b:Int) (t u:Tok):nH A (.int a t) (.int b u) (a == b) (decide (a < b)):=fun prog w E s =>
 ⟨fun Q h=>wpAny_eqBool_int h,fun b' Q h=>by
  cases b' with
  | true=>exact oneLt_int h
  | false =>
   rw [OY]
   simp only [rl,if_false]
   exact b_ (N3 (nI _ h):k_ (p_ prog w) A (Hu .Lt (.int a t) (.int b u)) _ E s)⟩
theorem rG (A:w_) (a b:Bool):nH A (.bool a) (.bool b) (a == b) (decide (b2i a < b2i b)):=fun prog w E s =>
 ⟨fun Q h=>NG a b prog w E Q h,fun b' Q h=>by
  cases b' with
  | true =>
   rw [OY]
   simp only [if_true]
   refine b_ (wpAny_cRoomFor_byValue rfl ?_)
   refine b_ (wpAny_callSpecialIfBound?_slot (OF s a) F.slot_bool_lt (call_gives F.slot_bool_lt (OF s a) F.entry_int_lt (F.args_int_lt_2 _ _) (gives_int_lt_bools a b) ?_))
   exact nI _ h
  | false =>
   rw [OY]
   simp only [rl,if_false]
   exact b_ (NN (nI _ h):k_ (p_ prog w) A (Hu .Lt (.bool a) (.bool b)) _ E s)⟩
def cj:List (Bool×Bool)→Option Bool
 | []=>none
 | (true,_) :: r=>cj r
 | (false,l) :: _=>some l
inductive lS (A:w_):List (Value×Value)→List (Bool×Bool)→Prop
 | nil:lS A [] []
 | cons {p q:Value} {e l:Bool} {ps:List (Value×Value)} {rs:List (Bool×Bool)}:nH A p q e l→lS A ps rs→lS A ((p,q) :: ps) ((e,l) :: rs)
section
variable {prog:Program} {w:D_} {A:w_} {E:Value→c_→Prop} {s:c_}
theorem rH (b:Bool) {R:Option Bool×Unit→c_→Prop}:∀ {l:List (Value×Value)} {rs:List (Bool×Bool)} (k:Nat),lS A l rs→R (cj rs,()) s →
 k_ (p_ prog w) A (PN (l.zipIdx k) ((none,()):Option Bool×Unit) fun x __s=>match x with
  | ((p,q),i)=>do
   let __do_lift ← eqBool p q
   if (!__do_lift)=true then do
    let __do_lift ← oneLt' (b && i == 0) p q
    pure (ForInStep.done (some __do_lift,()))
    else pure (L_ (none,()))) R E s
 | _,_,k,.nil,h=>by
  rw [List.zipIdx_nil,NQ]
  exact d_ h
 | _,_,k,.cons (p:=p) (q:=q) (e:=e) (l:=l) i r,h=>by
  rw [List.zipIdx_cons,Pi]
  refine b_ ?_
  dsimp only
  refine b_ ((i prog w E s).1 _ ?_)
  cases e with
  | true =>
   simp only [Kv,rl,if_false]
   exact d_ (rH b (k + 1) r h)
  | false =>
   simp only [LC,if_true]
   exact b_ ((i prog w E s).2 _ _ (d_ (d_ h)))
theorem rJ (b:Bool) {a c:Addr} {xs ys:Array Value} {rs:List (Bool×Bool)} {Q:Bool→c_→Prop} (h1:s.heap.IsTuple a xs) (h2:s.heap.IsTuple c ys) (hi:lS A (xs.toList.zip ys.toList) rs) (h:Q ((cj rs).getD (decide (xs.size < ys.size))) s) :
 k_ (p_ prog w) A (keyLt' (tuples' b) (.ref a) (.ref c)) Q E s:=by
 rw [pb]
 obtain ⟨o1,g1,_,n1,d1⟩:=h1
 obtain ⟨o2,g2,_,n2,d2⟩:=h2
 refine b_ (KT g1 d1 (b_ (KT g2 d2 ?_)))
 refine b_ (rH b 0 hi ?_)
 dsimp only
 cases hf:cj rs with
 | none=>rw [hf] at h; exact d_ h
 | some r=>rw [hf] at h; exact d_ h
inductive hU (h:Heap):List Value→List Value→Prop
 | nil:hU h [] []
 | cons {a:Addr} {xs:Array Value} {f:Value} {vs fs:List Value}:h.IsTuple a xs→xs[0]?=some f→hU h vs fs→hU h (.ref a :: vs) (f :: fs)
theorem kT {R:List (Option Value)→c_→Prop}:∀ {vs:List Value} {fs:List Value},hU s.heap vs fs→R (fs.map some) s→k_ (p_ prog w) A (vs.mapM firstOfTuple') R E s
 | _,_,.nil,h=>by rw [List.mapM_nil]; exact d_ h
 | _,_,.cons e2 e3 r,h=>by
  rw [List.mapM_cons,pc]
  obtain ⟨o,g,c,n,d⟩:=e2
  refine b_ (b_ (JH (T:="tuple") ⟨o,g,c⟩ ?_))
  rw [if_neg (by decide)]
  refine b_ (KT g d (d_ ?_))
  rw [e3]
  refine b_ (kT r ?_)
  exact d_ h
end
end TS
namespace TS
open PySem PyProof.Rows FD
def kdI:Dv→Nat
 | .str _=>1
 | .int _=>2
 | .bl _=>3
 | _=>0
def eqI:Dv→Dv→Bool
 | .str a,.str b=>decide (a=b)
 | .int a,.int b=>a == b
 | .bl a,.bl b=>a == b
 | _,_=>false
def ltI:Dv→Dv→Bool
 | .str a,.str b=>decide (a.cps.toList < b.cps.toList)
 | .int a,.int b=>decide (a < b)
 | .bl a,.bl b=>decide (b2i a < b2i b)
 | _,_=>false
def ltL:List Dv→List Dv→Bool
 | x :: xs,y :: ys=>if eqI x y then ltL xs ys else ltI x y
 | _,_=>false
def sig (ds:List Dv):List Nat:=ds.map kdI
def da (ks:List Nat):Bool:=ks.all fun k=>k != 0
theorem iY {x y:Dv} (h:eqI x y=true):x=y:=by
 cases x <;> cases y <;> simp [eqI] at h <;> simp [h]
theorem nM {x:Dv} (h:kdI x≠0):eqI x x=true:=by
 cases x <;> simp [kdI] at h <;> simp [eqI]
theorem nN (x:Dv):ltI x x=false:=by
 cases x with
 | str a=>simp only [ltI,decide_eq_false_iff_not]; exact List.lt_irrefl _
 | int a=>simp [ltI]
 | bl a=>cases a <;> rfl
 | _=>rfl
theorem nO {x y z:Dv} (h1:ltI x y=true) (h2:ltI y z=true):ltI x z=true:=by
 cases x <;> cases y <;> simp only [ltI,rl,decide_eq_true_eq] at h1 <;> cases z <;> simp only [ltI,rl,decide_eq_true_eq] at h2 ⊢
 · omega
 · omega
 · exact List.lt_trans h1 h2
theorem x5 (a b:Str) (h:¬ a.cps.toList < b.cps.toList) (h':¬ b.cps.toList < a.cps.toList):a=b:=by
 have e:a.cps.toList=b.cps.toList:=O4 (NO.mp h') (NO.mp h)
 obtain ⟨⟨a⟩⟩:=a; obtain ⟨⟨b⟩⟩:=b
 simp at e
 rw [e]
theorem rK {x y:Dv} (hk:kdI x=kdI y) (h0:kdI x≠0) (h1:ltI x y=false) (h2:ltI y x=false):x=y:=by
 cases x <;> simp [kdI] at h0 <;> cases y <;> simp [kdI] at hk
 · rename_i a b
   cases a <;> cases b <;> simp [ltI,b2i] at h1 h2 ⊢
 · simp [ltI] at h1 h2
   simp
   omega
 · simp only [ltI,decide_eq_false_iff_not] at h1 h2
   rw [x5 _ _ h1 h2]
theorem nP:∀ xs:List Dv,ltL xs xs=false
 | []=>rfl
 | x :: xs=>by
  unfold ltL
  split
  · exact nP xs
  · exact nN x
theorem nQ:∀ {xs ys zs:List Dv},ltL xs ys=true→ltL ys zs=true→ltL xs zs=true
 | x :: xs,y :: ys,z :: zs,h1,h2=>by
  unfold ltL at h1 h2 ⊢
  by_cases e1:eqI x y=true
  · have:=iY e1
    subst this
    rw [if_pos e1] at h1
    by_cases e2:eqI x z=true
    · rw [if_pos e2] at h2 ⊢
      exact nQ h1 h2
    · rw [if_neg e2] at h2 ⊢
      exact h2
  · rw [if_neg e1] at h1
    by_cases e2:eqI y z=true
    · have:=iY e2
      subst this
      rw [if_neg e1]
      exact h1
    · rw [if_neg e2] at h2
      have:=nO h1 h2
      rw [if_neg fun e=>by
       have:=iY e
       subst this
       have:=nO h1 h2
       rw [nN] at this
       cases this]
      exact this
 | [],_,_,h1,_=>by simp [ltL] at h1
 | _ :: _,[],_,h1,_=>by simp [ltL] at h1
 | _ :: _,_ :: _,[],_,h2=>by simp [ltL] at h2
theorem rL:∀ {xs ys zs:List Dv},sig xs=sig ys→sig ys=sig zs→da (sig xs)=true→ltL xs zs=true→ltL xs ys=true∨ltL ys zs=true
 | x :: xs,y :: ys,z :: zs,s1,s2,hk,h=>by
  simp only [sig,y_,Nq] at s1 s2
  simp only [sig,da,y_,Im,j_,bne_iff_ne,ne_eq] at hk
  have hx:=hk.1
  unfold ltL at h ⊢
  by_cases e1:eqI x y=true
  · have:=iY e1
    subst this
    rw [if_pos e1]
    by_cases e2:eqI x z=true
    · rw [if_pos e2] at h ⊢
      exact rL s1.2 s2.2 (by simpa [da,sig] using hk.2) h
    · rw [if_neg e2] at h ⊢
      exact .inr h
  · rw [if_neg e1]
    by_cases e2:eqI y z=true
    · have:=iY e2
      subst this
      rw [if_neg e1] at h
      exact .inl h
    · rw [if_neg e2]
      cases hl:ltI x y with
      | true=>exact .inl rfl
      | false =>
       cases hr:ltI y z with
       | true=>exact .inr rfl
       | false =>
        exfalso
        have g1:ltI y x=true:=by
         cases q:ltI y x with
         | true=>rfl
         | false =>
          have:=rK s1.1 hx hl q
          subst this
          exact absurd (nM hx) e1
        have g2:ltI z y=true:=by
         cases q:ltI z y with
         | true=>rfl
         | false =>
          have:=rK s2.1 (by rw [← s1.1]; exact hx) hr q
          subst this
          exact absurd (nM (by rw [← s1.1]; exact hx)) e2
        have g3:=nO g2 g1
        by_cases e3:eqI x z=true
        · have:=iY e3
          subst this
          rw [nN] at g3
          cases g3
        · rw [if_neg e3] at h
          have:=nO h g3
          rw [nN] at this
          cases this
 | [],_,_,_,_,_,h=>by simp [ltL] at h
 | _ :: _,[],_,s1,_,_,_=>by simp [sig] at s1
 | _ :: _,_ :: _,[],_,s2,_,_=>by simp [sig] at s2
theorem rM {R:Nat→Nat→Prop} (as:∀ a b,R a b→R b a→False):∀ {l m:List Nat},l.Perm m→l.Pairwise R→m.Pairwise R→l=m
 | [],m,hp,_,_=>hp.nil_eq
 | x :: l,[],hp,_,_=>by simpa using hp.length_eq
 | x :: l,y :: m,hp,h1,h2=>by
  rw [G_] at h1 h2
  have e:x=y:=by
   rcases on.mp (hp.mem_iff.mp (g_ (a:=x))) with e | hx
   · exact e
   · rcases on.mp (hp.mem_iff.mpr (g_ (a:=y))) with e | hy
     · exact e.symm
     · exact (as _ _ (h1.1 y hy) (h2.1 x hx)).elim
  subst e
  rw [rM as hp.cons_inv h1.2 h2.2]
theorem Lex.as {blt:Nat→Nat→Bool} (O:Od blt) {a b:Nat} (h:Lex blt a b) (h':Lex blt b a):False:=by
 have:=h.tr O h'
 rcases this with q | q
 · rw [O.ir] at q; cases q
 · omega
theorem rN {blt:Nat→Nat→Bool} (O:Od blt) (x:Nat):∀ l:List Nat,(∀ y∈l,x < y)→l.Pairwise (Lex blt)→(lB (fun i j=>!blt j i) x l).Pairwise (Lex blt)
 | [],_,_=>by simp [lB]
 | y :: l,hx,h=>by
  unfold lB
  rw [G_] at h
  split
  · rename_i hc
    have hxy:Lex blt x y:=.of_le (by simpa using hc) (hx y g_)
    rw [G_,G_]
    refine ⟨fun z hz=>?_,h⟩
    rcases on.mp hz with rfl | hz
    · exact hxy
    · exact hxy.tr O (h.1 z hz)
  · rename_i hc
    rw [G_]
    refine ⟨fun z hz=>?_,rN O x l (fun z hz=>hx z (l_ _ hz)) h.2⟩
    rcases on.mp ((dC _ x l).mem_iff.mp hz) with rfl | hz
    · exact .inl (by simpa using hc)
    · exact h.1 z hz
theorem nR {blt:Nat→Nat→Bool} (O:Od blt):∀ l:List Nat,l.Pairwise (· < ·)→(isortB (fun i j=>!blt j i) l).Pairwise (Lex blt)
 | [],_=>.nil
 | x :: l,h=>by
  rw [G_] at h
  exact rN O x _ (fun y hy=>h.1 y ((isortB_perm _ l).mem_iff.mp hy)) (nR O l h.2)
theorem rO {α β:Type} {le:α→α→Bool} {le':β→β→Bool} (f:α→β) (x:α):∀ l:List α,(∀ y∈l,le x y=le' (f x) (f y))→(lB le x l).map f=lB le' (f x) (l.map f)
 | [],_=>rfl
 | y :: l,h=>by
  have e:=h y g_
  simp only [lB,y_]
  rw [← e]
  split
  · rfl
  · rw [y_,rO f x l fun z hz=>h z (l_ _ hz)]
theorem sort_map {α β:Type} {le:α→α→Bool} {le':β→β→Bool} (f:α→β):∀ l:List α,(∀ x∈l,∀ y∈l,le x y=le' (f x) (f y))→(isortB le l).map f=isortB le' (l.map f)
 | [],_=>rfl
 | x :: l,h=>by
  simp only [isortB,y_]
  rw [rO (le':=le') f x _ fun y hy=>h x g_ y (l_ _ ((isortB_perm _ l).mem_iff.mp hy)),sort_map f l fun a ha b hb=>h a (l_ _ ha) b (l_ _ hb)]
theorem hX:∀ (l m:List Nat),l.Nodup→(∀ x∈l,x∈m)→m.length≤l.length→l.Perm m
 | [],m,_,_,h=>by
  have:m=[]:=IQ.mp (by simpa using h)
  subst this
  exact .refl _
 | x :: l,m,nd,hs,h=>by
  rw [Kt] at nd
  obtain ⟨m1,m2,rfl⟩:=List.append_of_mem (hs x g_)
  refine ((hX l (m1 ++ m2) nd.2 (fun y hy=>?_) (by simp at h ⊢; omega)).cons x).trans List.perm_middle.symm
  have:=hs y (l_ _ hy)
  simp only [HC,on] at this ⊢
  rcases this with q | rfl | q
  · exact .inl q
  · exact (nd.1 hy).elim
  · exact .inr q
theorem lT {n:Nat} {p:Nat→Nat} (hlt:∀ k,k < n→p k < n) (inj:∀ a b,a < n→b < n→p a=p b→a=b):((h_ n).map p).Perm (h_ n):=by
 have nd:((h_ n).map p).Nodup:=by
  rw [List.nodup_iff_pairwise_ne,MH]
  refine (O2 (n:=n)).imp_of_mem fun {a b} ha hb hab e=>hab (inj a b (by simpa using ha) (by simpa using hb) e)
 have sub:∀ x∈(h_ n).map p,x∈h_ n:=fun x hx=>by
  obtain ⟨k,hk,rfl⟩:=Iv.mp hx
  simpa using hlt k (by simpa using hk)
 exact hX _ _ nd sub (by simp)
theorem kU {blt:Nat→Nat→Bool} (O:Od blt) {n:Nat} {p:Nat→Nat} (hlt:∀ k,k < n→p k < n) (inj:∀ a b,a < n→b < n→p a=p b→a=b) (so:∀ a b,a < b→b < n→Lex blt (p a) (p b)) :
 (h_ n).map p=isortB (fun i j=>!blt j i) (h_ n):=by
 refine rM (fun a b h h'=>h.as O h') ((lT hlt inj).trans (isortB_perm _ _).symm) ?_ (nR O _ Nn)
 rw [MH]
 exact (Nn (n:=n)).imp_of_mem fun {a b} ha hb hab=>so a b hab (by simpa using hb)
section
variable {prog:Program} {w:D_} {A:w_} {E:Value→c_→Prop} {s:c_}
theorem nU {R:List Value→c_→Prop}:∀ {fs:List Value},(∀ f∈fs,∃ T,∀ s':c_,s'.TypeIs f T)→(∀ ts,R ts s)→k_ (p_ prog w) A (fs.mapM N_) R E s
 | [],_,h=>by rw [List.mapM_nil]; exact d_ (h _)
 | f :: fs,hf,h=>by
  obtain ⟨T,hT⟩:=hf f g_
  rw [List.mapM_cons]
  refine b_ (JH (hT s) ?_)
  exact b_ (nU (fun g hg=>hf g (l_ _ hg)) fun ts=>d_ (h _))
theorem EU {vs fs:List Value} (hF:hU s.heap vs fs) (hf:∀ f∈fs,∃ T,∀ s':c_,s'.TypeIs f T) {R:M5→c_→Prop} (h:∀ b,R (tuples' b) s):k_ (p_ prog w) A (keyKind' vs.toArray) R E s:=by
 rw [keyKind'_eq,OK]
 refine b_ ?_
 rw [← bind_pure_comp]
 refine b_ (kT hF (d_ ?_))
 rw [if_pos (by simp)]
 refine b_ (JP ?_)
 have e:(fs.map some).toArray.filterMap id=fs.toArray:=by simp
 rw [e,oneTypeOnly'_eq,OK]
 refine b_ (b_ ?_)
 rw [← bind_pure_comp]
 refine b_ (nU hf fun ts=>d_ ?_)
 split
 · exact d_ (d_ (h _))
 · exact d_ (d_ (h _))
end
section
variable {prog:Program} {w:D_} {A:w_} {E:Value→c_→Prop} {s:c_} {blt:Nat→Nat→Bool}
end
end TS
namespace FD
open PySem PySem.Spec PyProof.Rows L2 TS
def fD (rows:List (List Dv)):Bool:=decide (rows.length < 64) && rows.all fun r=>decide (sig r=sig (rows.headD [])) && !r.isEmpty && da (sig r)
theorem cm (k l:Bool) (rs:List (Bool×Bool)):(cj ((k,l) :: rs)).getD false=if k=true then (cj rs).getD false else l:=by cases k <;> rfl
theorem nV {K:ck} {H:Hp} {A:w_}:∀ {es es':List Dv} {us us':List V} {tis tis':List Value},sig es=sig es'→da (sig es)=true→Reps K H es us→Reps K H es' us'→Vals us tis→Vals us' tis' →
 ∃ rs,lS A (tis.zip tis') rs∧(cj rs).getD false=ltL es es'
 | [],[],us,us',tis,tis',_,_,r,r',v,v'=>by
  cases (show us=[] from r)
  cases v
  exact ⟨[],.nil,rfl⟩
 | x :: es,y :: es',us,us',tis,tis',s,hk,r,r',v,v'=>by
  obtain ⟨u,us1,rfl,r1,r2⟩:∃ v us1,us=v :: us1∧Rep K H x v∧Reps K H es us1:=r
  obtain ⟨u',us1',rfl,r1',r2'⟩:∃ v us1,us'=v :: us1∧Rep K H y v∧Reps K H es' us1:=r'
  simp only [sig,y_,Nq] at s
  simp only [sig,da,y_,Im,j_,bne_iff_ne,ne_eq] at hk
  cases v with
  | cons v1 v2 =>
   cases v' with
   | cons v1' v2' =>
    obtain ⟨rs,i1,i2⟩:=nV (A:=A) s.2 (by simpa [da,sig] using hk.2) r2 r2' v2 v2'
    cases x with
    | str a =>
     cases y with
     | str b =>
      cases (show u=.str a from r1)
      cases (show u'=.str b from r1')
      obtain ⟨t,rfl⟩:=v1
      obtain ⟨t',rfl⟩:=v1'
      refine ⟨(decide (a=b),decide (a.cps.toList < b.cps.toList)) :: rs,.cons (nJ A a b t t') i1,?_⟩
      rw [cm,i2]
      rfl
     | _=>exact absurd s.1 (by simp [kdI])
    | int a =>
     cases y with
     | int b =>
      cases (show u=.int a from r1)
      cases (show u'=.int b from r1')
      obtain ⟨t,rfl⟩:=v1
      obtain ⟨t',rfl⟩:=v1'
      refine ⟨(a == b,decide (a < b)) :: rs,.cons (nK A a b t t') i1,?_⟩
      rw [cm,i2]
      rfl
     | _=>exact absurd s.1 (by simp [kdI])
    | bl a =>
     cases y with
     | bl b =>
      cases (show u=.bl a from r1)
      cases (show u'=.bl b from r1')
      cases v1
      cases v1'
      refine ⟨(a == b,decide (b2i a < b2i b)) :: rs,.cons (rG A a b) i1,?_⟩
      rw [cm,i2]
      rfl
     | _=>exact absurd s.1 (by simp [kdI])
    | _=>exact absurd rfl hk.1
 | [],_ :: _,_,_,_,_,s,_,_,_,_,_=>by simp [sig] at s
 | _ :: _,[],_,_,_,_,s,_,_,_,_,_=>by simp [sig] at s
theorem u0 {K:ck} {H:Hp} {x:Dv} {v:V} {u:Value} (hk:kdI x≠0) (r:Rep K H x v) (rv:RelV v u):∃ T,∀ s':c_,s'.TypeIs u T:=by
 cases x with
 | str a=>cases (show v=.str a from r); obtain ⟨t,rfl⟩:=rv; exact ⟨"str",fun s=>Lc s _ _⟩
 | int a=>cases (show v=.int a from r); obtain ⟨t,rfl⟩:=rv; exact ⟨"int",fun s=>Oa s _ _⟩
 | bl a=>cases (show v=.bl a from r); cases rv; exact ⟨"bool",fun s=>OF s _⟩
 | _=>exact absurd rfl hk
section
variable {X:Cx} {pins:List (Addr×Obj)} {σ:L2.St} {H:Hp} {s:c_}
theorem kW (I:Inv X pins σ H s):∀ {rows:List (List Dv)} {ws:List V} {its:List Value},(∀ r∈rows,r≠[]∧da (sig r)=true)→Reps X.K H (rows.map Dv.tup) ws→Vals ws its→∃ fs,hU s.heap its fs∧∀ f∈fs,∃ T,∀ s':c_,s'.TypeIs f T
 | [],ws,its,_,r,v=>by
  cases (show ws=[] from r)
  cases v
  exact ⟨[],.nil,by simp⟩
 | es :: rows,ws,its,h,r,v=>by
  obtain ⟨u,ws1,rfl,r1,r2⟩:∃ v ws1,ws=v :: ws1∧Rep X.K H (.tup es) v∧Reps X.K H (rows.map Dv.tup) ws1:=r
  obtain ⟨a,xs,rfl,ha,rx⟩:=r1.tupE
  cases v with
  | cons v1 v2 =>
   cases v1
   obtain ⟨fs,f1,f2⟩:=kW I (fun r hr=>h r (l_ _ hr)) r2 v2
   obtain ⟨tis,rt,pt,hz⟩:=I.tuple (SqT.of ha)
   obtain ⟨h1,h2⟩:=h es g_
   cases es with
   | nil=>exact absurd rfl h1
   | cons x es =>
    obtain ⟨u,us,rfl,q1,q2⟩:∃ v us,xs=v :: us∧Rep X.K H x v∧Reps X.K H es us:=rx
    cases rt with
    | cons w1 w2 =>
     rename_i t ts
     refine ⟨t :: fs,.cons pt (by simp) f1,fun f hf=>?_⟩
     rcases on.mp hf with rfl | hf
     · simp only [sig,da,y_,Im,j_,bne_iff_ne,ne_eq] at h2
       exact u0 h2.1 q1 w1
     · exact f2 f hf
theorem rP (I:Inv X pins σ H s):∀ {rows:List (List Dv)} {ws:List V} {its:List Value} (i:Nat) (x:Value),Reps X.K H (rows.map Dv.tup) ws→Vals ws its→its[i]?=some x→∃ a us tis es,rows[i]?=some es∧ws[i]?=some (.ref a)∧x=.ref a∧Reps X.K H es us∧Vals us tis∧H a=some (.tup us)∧s.heap.IsTuple a tis.toArray
 | [],ws,its,i,x,r,v,h=>by
  cases (show ws=[] from r)
  cases v
  simp at h
 | es :: rows,ws,its,i,x,r,v,h=>by
  obtain ⟨u,ws1,rfl,r1,r2⟩:∃ v ws1,ws=v :: ws1∧Rep X.K H (.tup es) v∧Reps X.K H (rows.map Dv.tup) ws1:=r
  obtain ⟨a,xs,rfl,ha,rx⟩:=r1.tupE
  cases v with
  | cons v1 v2 =>
   cases v1
   cases i with
   | zero =>
    simp at h
    subst h
    obtain ⟨tis,rt,pt,hz⟩:=I.tuple (SqT.of ha)
    exact ⟨a,xs,tis,es,rfl,rfl,rfl,rx,rt,ha,pt⟩
   | succ i =>
    obtain ⟨a',us,tis,es',q1,q2,q⟩:=rP I i x r2 v2 (by simpa using h)
    exact ⟨a',us,tis,es',by simpa using q1,by simpa using q2,q⟩
theorem cK {K:ck}:∀ {ds:List Dv} {ws:List V},Reps K H ds ws→ds.length=ws.length
 | [],ws,r=>by cases (show ws=[] from r); rfl
 | d :: ds,ws,r=>by
  obtain ⟨u,ws1,rfl,r1,r2⟩:∃ v ws1,ws=v :: ws1∧Rep K H d v∧Reps K H ds ws1:=r
  simp [cK r2]
theorem pe {K:ck} {ds:List Dv} {ws:List V} (hl:ds.length=ws.length) (h:∀ (i:Nat) (d:Dv) (v:V),ds[i]?=some d→ws[i]?=some v→Rep K H d v):Reps K H ds ws:=by
 induction ds generalizing ws with
 | nil=>cases ws with
  | nil=>exact rfl
  | cons _ _=>simp at hl
 | cons d ds ih=>cases ws with
  | nil=>simp at hl
  | cons w ws=>exact ⟨w,ws,rfl,h 0 d w rfl rfl,ih (by simpa using hl) fun i d' v e1 e2=>h (i + 1) d' v (by simpa using e1) (by simpa using e2)⟩
theorem lU {K:ck}:∀ {ds:List Dv} {ws:List V},Reps K H ds ws→∀ (i:Nat) (d:Dv) (v:V),ds[i]?=some d→ws[i]?=some v→Rep K H d v
 | [],_,_,i,d,v,h,_=>by simp at h
 | d0 :: ds,ws,r,i,d,v,h,h'=>by
  obtain ⟨u,ws1,rfl,r1,r2⟩:∃ v ws1,ws=v :: ws1∧Rep K H d0 v∧Reps K H ds ws1:=r
  cases i with
  | zero=>simp at h h'; subst h; subst h'; exact r1
  | succ i=>exact lU r2 i d v (by simpa using h) (by simpa using h')
theorem pf {ws:List V} {its:List Value} (hl:ws.length=its.length) (h:∀ (i:Nat) (v:V) (u:Value),ws[i]?=some v→its[i]?=some u→RelV v u):Vals ws its:=by
 induction ws generalizing its with
 | nil=>cases its with
  | nil=>exact .nil
  | cons _ _=>simp at hl
 | cons d ds ih=>cases its with
  | nil=>simp at hl
  | cons w ws=>exact .cons (h 0 d w rfl rfl) (ih (by simpa using hl) fun i d' v e1 e2=>h (i + 1) d' v (by simpa using e1) (by simpa using e2))
def db (rows:List (List Dv)) (i:Nat):List Dv:=rows.getD i (rows.headD [])
theorem hZ {rows:List (List Dv)} (h:∀ r∈rows,sig r=sig (rows.headD [])∧r≠[]∧da (sig r)=true) (i:Nat):sig (db rows i)=sig (rows.headD [])∧da (sig (db rows i))=true:=by
 unfold db
 cases rows with
 | nil=>exact ⟨rfl,rfl⟩
 | cons r rows =>
  by_cases hi:i < (r :: rows).length
  · have e:(r :: rows).getD i ((r :: rows).headD [])=(r :: rows)[i]:=by
     unfold Kg
     rw [u_ hi]
     rfl
    rw [e]
    have:=h _ (Ju hi)
    exact ⟨this.1,this.2.2⟩
  · have e:(r :: rows).getD i ((r :: rows).headD [])=r:=by
     unfold Kg
     rw [Jf (by omega)]
     rfl
    rw [e]
    exact ⟨rfl,(h r g_).2.2⟩
theorem x8 {rows:List (List Dv)} (h:∀ r∈rows,sig r=sig (rows.headD [])∧r≠[]∧da (sig r)=true):Od fun i j=>ltL (db rows i) (db rows j) where
 ir:=fun a=>nP _
 tr:=fun a b c h1 h2=>nQ h1 h2
 nt:=fun a b c h1=>rL ((hZ h a).1.trans (hZ h b).1.symm) ((hZ h b).1.trans (hZ h c).1.symm) (hZ h a).2 h1
theorem lV {rows:List (List Dv)} {i:Nat} {es:List Dv} (h:rows[i]?=some es):db rows i=es:=by
 unfold db Kg
 rw [h]
 rfl
end
section
variable {X:Cx} {p pos:Pos} {e:Expr} {es:List Expr} {ga:FnA}
end
end FD
namespace FD
open PySem PySem.Spec PyProof.Rows L2 PySem.W
section
variable {X:Cx} {hx:Expr} {body:List Stmt} {f:FnS} {g:FnE} {J n:Str} {CJ:Addr} {np rp2 hpos pos:Pos}
end
end FD
namespace FD
open PySem PySem.Spec PyProof.Rows L2 TS
section
variable {X:Cx} {pins:List (Addr×Obj)} {σ:L2.St} {H:Hp} {s:c_} {k:Nat} {f:Addr} {fd:Iu} {ps:List Str} {F:List Dv→Option (Rs Dv)} {A':w_} {E:Value→c_→Prop}
theorem BI (G:FnOk X.prog X.w X.K X.mg X.base CX0 k f fd ps (spF X.K F ps.length)) (hr:Room k A') (hfr:A'.frames=X.A.frames) (hb:Binds X.K fd ps []) (I:Inv X pins σ H s) {v:V} {u:Value} {d d':Dv} (rv:RelV v u) (r:Rep X.K H d v) (h1:ps.length=1) (hF:F [d]=some (.ok d')) :
 k_ (p_ X.prog X.w) A' (call (.ref f) [u]) (EP X pins σ fun v' H'=>Same H H'∧Rep X.K H' d' v') E s:=by
 have e0:=I.env0
 refine Lb (Jh (G.run A' X.stack s H ⟨[u],[]⟩ [u] [v] (fun v' H'=>Same H H'∧Rep X.K H' d' v') E0 hr ⟨hfr.trans e0.frames,e0.mod,e0.bs,e0.bsz,e0.funs,e0.frf,e0.hok,e0.bare⟩ (by simpa using hb s [u] I.kIn (by simp [h1])) (.cons rv .nil) ⟨[d],⟨v,[],rfl,r,rfl⟩,h1.symm,by rw [hF]; exact fun v H' e r=>⟨e,r⟩⟩) fun r s' hq=>?_)
 cases r with
 | error e=>exact hq.elim
 | ok fl =>
  cases fl with
  | ret u=>exact I.after hq
  | next=>exact Ht hq
  | brk=>exact Ht hq
  | cont=>exact Ht hq
end
end FD
namespace TS
open PySem PyProof.Rows FD
section
variable {prog:Program} {w:D_} {A:w_} {E:Value→c_→Prop} {s:c_} {blt:Nat→Nat→Bool}
theorem wc {a kS:Addr} {e1 c:Nat} {its:Array Value} {st:Lx} {P:OX→c_→Prop} (hk:s.heap.get? kS=some (Ii "list" its c)) (ha:s.heap.get? a=some (Ii "list" #[] e1)) (hne:kS≠a) (hz:its.size≤sizeLine) (hz2:(LX st).size≤sizeLine) (hf:OG st=none)
 (h:P (.done (.ret .none)) { s with heap:=(s.heap.update kS (HB fun _=>#[])).update a (HB fun _=>(LX st).map (·.2)) }):k_ (p_ prog w) A (ksk_tail a false e1 (.ref kS) st) P E s:=by
 unfold ksk_tail
 refine b_ (LR hk rfl ?_ hz (Hq _))
 refine b_ (wpAny_letGo ?_)
 have ha2:(s.heap.update kS (HB fun _=>#[])).get? a=some (Ii "list" #[] e1):=by
  rw [Jb _ _ _ _ hne.symm]; exact ha
 refine b_ (seqEpoch_at (s:={ s with heap:=s.heap.update kS (HB fun _=>#[]) }) ha2 rfl ?_)
 refine b_ (LR (s:={ s with heap:=s.heap.update kS (HB fun _=>#[]) }) ha2 rfl ?_ (Hq _) (by simp only [rl,if_false,LF]; omega))
 rw [hf]
 simp only [bne_self_eq_false,rl,if_false]
 exact d_ h
theorem EV {a kS:Addr} {e1 c:Nat} {its vs fs:List Value} {P:OX→c_→Prop} (hk:s.heap.get? kS=some (Ii "list" its.toArray c)) (ha:s.heap.get? a=some (Ii "list" #[] e1)) (hne:kS≠a) (hlen:its.length=vs.length) (h64:vs.length < 64) (O:Od blt)
 (hF:hU s.heap its fs) (hf:∀ f∈fs,∃ T,∀ s':c_,s'.TypeIs f T)
 (hC:∀ (A':w_) (i j:Nat) (x y:Value),its[i]?=some x→its[j]?=some y→∃ a c xs ys rs,x=.ref a∧y=.ref c∧s.heap.IsTuple a xs∧s.heap.IsTuple c ys∧lS A' (xs.toList.zip ys.toList) rs∧(cj rs).getD (decide (xs.size < ys.size))=blt i j)
 (h:∀ (p:Nat→Nat) (out:Array Value) (tk:Nat),out.size=vs.length→(∀ k,k < vs.length→out[k]?=vs[p k]?)→(h_ vs.length).map p=isortB (fun i j=>!blt j i) (h_ vs.length)→(∀ k,k < vs.length→p k < vs.length) →
   P (.done (.ret .none)) { s with heap:=(s.heap.update kS (HB fun _=>#[])).update a (HB fun _=>out),toks:=tk }) :
 k_ (p_ prog w) A (ksk_end a false vs.toArray e1 (.ref kS) its.toArray) P E s:=by
 unfold ksk_end
 simp only [rl,if_false]
 have hz:its.toArray.size≤sizeLine:=line64 (by simp; omega)
 have pz:(its.toArray.zip vs.toArray).size=vs.length:=by simp [hlen]
 have pat:∀ k,k < vs.length→(its.toArray.zip vs.toArray)[k]?=some (its.getD k .none,vs.getD k .none):=fun k hk=>by
  have:k < its.length:=by omega
  have hz':k < (its.zip vs).length:=by simp; omega
  have e:(its.zip vs)[k]?=some (its[k],vs[k]):=by rw [u_ hz',O5]
  simp [hk,this,Kg,e]
 have hsz:vs.toArray.size=vs.length:=by simp
 by_cases h2:vs.toArray.size < 2
 · rw [if_pos h2,if_pos h2]
   refine b_ (d_ ?_)
   rw [Pf]
   refine b_ (d_ ?_)
   dsimp only
   refine wc (st:=SortSt.mk' general' (its.toArray.zip vs.toArray) #[] 7 none) hk ha hne hz (line64 (by rw [pz]; exact h64)) rfl ?_
   have:=h id ((its.toArray.zip vs.toArray).map (·.2)) s.toks (by rw [LF,pz]) (fun k hk=>by
    rw [Op,pat k hk]
    simp [hk,Kg]) (kU O (fun k hk=>hk) (fun _ _ _ _ e=>e) (fun x y hxy hy=>by rw [hsz] at h2; omega)) (fun k hk=>hk)
   exact this
 · rw [if_neg h2,if_neg h2]
   rw [hsz] at h2
   refine b_ (EU hF hf fun b=>?_)
   refine b_ (HI (BH (J:=JT s s.heap) (E:=E) (Q:=fun _ st'=>∃ p',ET (its.toArray.zip vs.toArray) blt p' (LX st')∧OG st'=none) (p:=id) O
    (fun i j x y s1 E' ex ey J1=>?_)
    (st:=SortSt.mk' (tuples' b) (its.toArray.zip vs.toArray) #[] 7 none) ⟨rfl,fun _ _=>rfl,fun _ h=>h,fun _ _ _ _ e=>e,rfl,rfl,rfl⟩ (fun _ _=>rfl) (by rw [pz]; omega) (by rw [pz]; exact h64) (fun p' st' a1 a2=>⟨p',a1,a2⟩) s ⟨s.toks,n_ _,rfl⟩) ?_ fun _ _ e=>e)
   · obtain ⟨tk,htk,rfl⟩:=J1
     have at1:∀ (k:Nat) (z:OH),(its.toArray.zip vs.toArray)[k]?=some z→its[k]?=some z.1:=fun k z hz=>by
      have hk:k < vs.length:=by
       have:=(Ja.mp hz).1
       rwa [pz] at this
      rw [pat k hk] at hz
      cases hz
      have:k < its.length:=by omega
      simp [this,Kg]
     obtain ⟨a1,c1,xs,ys,rs,e1',e2',t1,t2,it,eb⟩:=hC _ i j x.1 y.1 (at1 i x ex) (at1 j y ey)
     rw [e1',e2']
     exact rJ (s:={ s with heap:=s.heap,toks:=tk }) b t1 t2 it ⟨⟨tk,htk,rfl⟩,eb⟩
   · rintro ⟨⟨⟩,st'⟩ s' ⟨⟨tk,_,rfl⟩,p',F,hfl⟩
     dsimp only
     have Fl:=F.lt
     have Fi:=F.inj
     have Fs:=F.so
     rw [pz] at Fl Fi Fs
     refine wc (s:={ s with heap:=s.heap,toks:=tk }) hk ha hne hz (by rw [F.sz,pz]; exact line64 h64) hfl ?_
     refine h p' ((LX st').map (·.2)) tk (by rw [LF,F.sz,pz]) (fun k hk=>?_) (kU O Fl Fi Fs) Fl
     rw [Op,F.at' k (by rw [pz]; exact hk),pat _ (Fl k hk)]
     simp [Fl k hk,Kg]
end
end TS
namespace FD
open PySem PySem.Spec PyProof.Rows L2 TS
section
variable {X:Cx} {pins:List (Addr×Obj)} {σ:L2.St} {H:Hp} {s:c_} {k:Nat} {f:Addr} {fd:Iu} {ps:List Str} {F:List Dv→Option (Rs Dv)} {A':w_} {E:Value→c_→Prop}
theorem kX:∀ {ds:List Dv} (n:Nat),imms ds=true→imms (ds.take n)=true
 | [],n,_=>by simp [imms]
 | d :: ds,0,_=>by simp [imms]
 | d :: ds,n + 1,h=>by
  simp only [imms,j_] at h
  simp only [List.take_succ_cons,imms,j_]
  exact ⟨h.1,kX n h.2⟩
theorem BJ {a kS:Addr} {e1:Nat} {vs:List Value} {ws:List V} {ds:List Dv} {rows:List (List Dv)} {P:OX→c_→Prop}
 (G:FnOk X.prog X.w X.K X.mg X.base CX0 k f fd ps (spF X.K F ps.length)) (hr:Room k A') (hfr:A'.frames=X.A.frames) (hb:Binds X.K fd ps []) (h1:ps.length=1)
 (I:Inv X (pins ++ [(a,Ii "list" #[] e1)]) σ H s) (hk:H kS=some (.lst [])) (hne:kS≠a) (rv:Vals ws vs) (rw':Reps X.K H ds ws) (im:imms ds=true)
 (hkey:∀ (i:Nat) (d:Dv),ds[i]?=some d→∃ es,rows[i]?=some es∧F [d]=some (.ok (.tup es))) (hlen:rows.length=ds.length) (hok:fD rows=true) (imk:imms (rows.map Dv.tup)=true) (fpa:∀ H',H' a=none→oH X pins H' a)
 (h:∀ (s':c_) (H':Hp) (p:Nat→Nat) (out:Array Value) (c:Nat),Inv X pins σ H' s'→H' a=none→(∀ b u,b≠kS→H b=some u→H' b=some u)→s'.heap.get? a=some (Ii "list" out c)→out.size=vs.length→(∀ k,k < vs.length→out[k]?=vs[p k]?) →
   (h_ vs.length).map p=isortB (fun i j=>!(fun i j=>ltL (db rows i) (db rows j)) j i) (h_ vs.length)→(∀ k,k < vs.length→p k < vs.length)→P (.done (.ret .none)) s') :
 k_ (p_ X.prog X.w) A' (ksk_rest a (.ref f) false vs.toArray e1 (.ref kS)) P E s:=by
 have hok':=hok
 simp only [fD,j_,decide_eq_true_eq,HV,Iw,List.isEmpty_eq_false_iff] at hok'
 have hR:∀ r∈rows,sig r=sig (rows.headD [])∧r≠[]∧da (sig r)=true:=fun r hr=>⟨(hok'.2 r hr).1.1,(hok'.2 r hr).1.2,(hok'.2 r hr).2⟩
 have hl2:ds.length=vs.length:=by have g1:=cK rw'; have g2:=rv.length; omega
 have h64:vs.length < 64:=by omega
 unfold ksk_rest
 refine b_ (JP ?_)
 first
  | rw [List.forIn_toArray]
  | (rw [← Lf]; simp only [Mb])
  | rw [← Lf]
 refine b_ (ksk_fold (fun i s'=>∃ H' zs,Inv X (pins ++ [(a,Ii "list" #[] e1)]) σ H' s'∧H' kS=some (.lst zs)∧(∀ b u,b≠kS→H b=some u→H' b=some u)∧Reps X.K H' ((rows.map Dv.tup).take i) zs) vs 0 s ⟨H,[],I,hk,fun _ _ _ e=>e,rfl⟩ ?step ?done)
 case step =>
  rintro j x s' hx ⟨H',zs,I',hk',sm,rz⟩
  simp only [Jr] at rz ⊢
  have hj:j < vs.length:=(v_.mp hx).1
  have hjd:ds[j]?=some (ds[j]'(by omega)):=u_ (by omega)
  obtain ⟨es,er,eF⟩:=hkey j _ hjd
  have hjw:ws[j]?=some (ws[j]'(by have:=rv.length; omega)):=u_ (by have:=rv.length; omega)
  have hjl:j < ws.length:=by have:=rv.length; omega
  have hjl2:j < ds.length:=by omega
  obtain ⟨u,eu,ru⟩:=rv.get hjw
  rw [hx] at eu
  cases eu
  have tupk:∀ b ys,H b=some (.tup ys)→H' b=some (.tup ys):=fun b ys q=>sm b _ (fun z=>by rw [z,hk] at q; cases q) q
  have rd:Rep X.K H' ds[j] ws[j]:=Rep.tups tupk _ _ (fu im hjd) (lU rw' j _ _ hjd hjw)
  refine b_ (Jg (HI (BI G hr hfr hb I' ru rd h1 eF (E:=fun _ _=>False)) (fun u' s2 he=>?_) fun _ _ z=>z.elim))
  obtain ⟨v',H2,I2,rv2,sm2,rp2⟩:=he
  dsimp only
  have hk2:H2 kS=some (.lst zs):=sm2 _ _ hk'
  obtain ⟨z,its,n,rvk,hlk,ek⟩:=I2.lstM hk2
  have hzl:zs.length≤62:=by have:=cK rz; simp at this; omega
  have hil:its.length≤62:=by have:=rvk.length; omega
  refine b_ (LR ek rfl ?_ (by simp; exact line64 (by omega)) (by simp; omega))
  have tup2:∀ b ys,H2 b=some (.tup ys)→(upd H2 kS (.lst (zs ++ [v']))) b=some (.tup ys):=fun b ys q=>by
   rw [al (fun z=>by rw [z,hk2] at q; cases q)]; exact q
  obtain ⟨n2,ek2⟩:∃ n2,(s2.heap.update kS (HB (·.push u'))).get? kS=some (Ii "list" (its.toArray.push u') n2):=⟨_,K8 (c:="list") ek (·.push u')⟩
  refine d_ ⟨rfl,upd H2 kS (.lst (zs ++ [v'])),zs ++ [v'],?_,ak,fun b u hb q=>?_,?_⟩
  · refine I2.write (t':=s2.toks) (x:=kS) (e:=kS) (o:=.lst (zs ++ [v'])) (by rw [hk2]; trivial) (.inl rfl) (fun b u hb q=>?_) ⟨_,ek2⟩ ?_
    · rw [Jb _ _ _ _ hb]; exact q
    · refine ⟨by simp; exact line64 (by omega),its ++ [u'],n2,rvk.append (.cons rv2 .nil),?_⟩
      simpa [Ii] using ek2
  · rw [al hb]
    exact sm2 _ _ (sm b u hb q)
  · have hrow:(rows.map Dv.tup).take (j + 1)=(rows.map Dv.tup).take j ++ [.tup es]:=by
     rw [List.take_add_one,Hz,er]
     rfl
    rw [hrow]
    have g1:Reps X.K (upd H2 kS (.lst (zs ++ [v']))) ((rows.map Dv.tup).take j) zs:=Reps.tups tup2 _ _ (kX j imk) (Reps.mono sm2 _ _ rz)
    have ime:imm (.tup es)=true:=fu imk (n:=j) (by rw [Hz,er]; rfl)
    exact g1.append ⟨v',[],rfl,Rep.tups tup2 _ _ ime rp2,rfl⟩
 case done =>
  rintro s' ⟨H',zs,I',hk',sm,rz⟩
  have rz':Reps X.K H' (rows.map Dv.tup) zs:=by
   rw [List.take_of_length_le (by simp; omega)] at rz
   exact rz
  obtain ⟨z,its,n,rvk,hlk,ek⟩:=I'.lstM hk'
  have hzl:zs.length=vs.length:=by have:=cK rz'; simp at this; omega
  have hil:its.length=vs.length:=by have:=rvk.length; omega
  refine b_ (KT ek rfl ?_)
  obtain ⟨fs,f1,f2⟩:=kW I' (fun r hr'=>(hR r hr').2) rz' rvk
  have hpa:=I'.pin (a,Ii "list" #[] e1) (by simp)
  refine EV (blt:=fun i j=>ltL (db rows i) (db rows j)) (c:=n) ek hpa.1 hne hil h64 (x8 hR) f1 f2 (fun A2 i j x y ex ey=>?_) fun p out tk o1 o2 o3 o4=>?_
  · obtain ⟨a1,us1,t1,es1,q1,q2,q3,q4,q5,q6,q7⟩:=rP I' i x rz' rvk ex
    obtain ⟨a2,us2,t2,es2,p1,p2,p3,p4,p5,p6,p7⟩:=rP I' j y rz' rvk ey
    have m1:=hR es1 (Jk q1)
    have m2:=hR es2 (Jk p1)
    obtain ⟨rs,i1,i2⟩:=nV (A:=A2) (m1.1.trans m2.1.symm) m1.2.2 q4 p4 q5 p5
    refine ⟨a1,a2,t1.toArray,t2.toArray,rs,q3,p3,q7,p7,by simpa using i1,?_⟩
    have hsz:t1.toArray.size=t2.toArray.size:=by
     have k1:=q5.length
     have k2:=p5.length
     have k3:=cK q4
     have k4:=cK p4
     have k5:(sig es1).length=(sig es2).length:=by rw [m1.1,m2.1]
     simp [sig] at k5
     simp
     omega
    rw [hsz,decide_eq_false (Ik _),i2,lV q1,lV p1]
  · obtain ⟨n2,ek2⟩:∃ n2,(s'.heap.update kS (HB fun _=>#[])).get? kS=some (Ii "list" #[] n2):=⟨_,K8 (c:="list") ek (fun _=>(#[]:Array Value))⟩
    have W:=I'.write (t':=tk) (h':=s'.heap.update kS (HB fun _=>#[])) (x:=kS) (e:=kS) (o:=.lst []) (by rw [hk']; trivial) (.inl rfl) (fun b u hb q=>by rw [Jb _ _ _ _ hb]; exact q) ⟨_,ek2⟩ ⟨Hq _,[],n2,.nil,by simpa [Ii] using ek2⟩
    have W2:=W.unpinned
    have hna:upd H' kS (.lst []) a=none:=by rw [al hne.symm]; exact hpa.2.1
    have ha2:(s'.heap.update kS (HB fun _=>#[])).get? a=some (Ii "list" #[] e1):=by rw [Jb _ _ _ _ hne.symm]; exact hpa.1
    obtain ⟨g0,g1,g2,g3⟩:=fpa _ hna
    have T:=W2.turned (t':=tk) (h':=(s'.heap.update kS (HB fun _=>#[])).update a (HB fun _=>out)) (it:=a) (fun b o hb q=>by rw [Jb _ _ _ _ hb]; exact q) g0 g1 g3.1 g3.2.1 g3.2.2
    exact h _ _ p out _ T hna (fun b u hb q=>by rw [al hb]; exact sm b u hb q) (K8 ha2 fun _=>out) o1 o2 o3 o4
end
def eH (F:List Dv→Option (Rs Dv)):List Dv→Option (List (List Dv))
 | []=>some []
 | d :: r=>match F [d],eH F r with
  | some (.ok (.tup es)),some rs=>some (es :: rs)
  | _,_=>none
def h8 (rows:List (List Dv)) (ds:List Dv):List Dv:=(isortB (fun a b=>!ltL b.1 a.1) (rows.zip ds)).map Prod.snd
def iZ (F:List Dv→Option (Rs Dv)) (ds:List Dv):Option (Rs Dv):=match eH F ds with
 | some rows=>if fD rows=true∧imms ds=true∧imms (rows.map Dv.tup)=true then some (.ok (.lst (h8 rows ds))) else none
 | none=>none
def ph (F:List Dv→Option (Rs Dv)):List Dv→Option (Rs Dv)
 | [.lst ds]=>iZ F ds
 | [.tup ds]=>iZ F ds
 | _=>none
theorem i0 {F:List Dv→Option (Rs Dv)}:∀ {ds:List Dv} {rows:List (List Dv)},eH F ds=some rows→rows.length=ds.length∧∀ (i:Nat) (d:Dv),ds[i]?=some d→∃ es,rows[i]?=some es∧F [d]=some (.ok (.tup es))
 | [],rows,h=>by cases h; exact ⟨rfl,fun i d e=>by simp at e⟩
 | d :: ds,rows,h=>by
  unfold eH at h
  split at h
  · rename_i es rs h1 h2
    cases h
    obtain ⟨g1,g2⟩:=i0 h2
    refine ⟨by simp [g1],fun i d' e=>?_⟩
    cases i with
    | zero=>simp at e; subst e; exact ⟨es,rfl,h1⟩
    | succ i=>exact g2 i d' (by simpa using e)
  · cases h
theorem rQ {rows:List (List Dv)} {ds:List Dv} (hl:rows.length=ds.length):(isortB (fun i j=>!(fun i j=>ltL (db rows i) (db rows j)) j i) (h_ ds.length)).map (fun i=>ds.getD i .non)=h8 rows ds:=by
 have e:(h_ ds.length).map (fun i=>(db rows i,ds.getD i .non))=rows.zip ds:=by
  apply M_
  · simp [hl]
  · intro i h1 h2
    simp only [HF,KC] at h1
    have h1':i < rows.length:=by omega
    simp only [O6,Om,O5]
    rw [lV (u_ h1')]
    simp [Kg,h1]
 unfold h8
 rw [← e,← sort_map (le:=fun i j=>!(fun i j=>ltL (db rows i) (db rows j)) j i) (fun i=>(db rows i,ds.getD i .non)) _ fun x _ y _=>rfl,IC]
 rfl
section
variable {X:Cx} {pins:List (Addr×Obj)} {σ:L2.St} {H:Hp} {s:c_} {k:Nat} {f:Addr} {fd:Iu} {ps:List Str} {F:List Dv→Option (Rs Dv)} {A':w_} {E:Value→c_→Prop}
theorem rR {h:Heap} {a:Addr} {o:Obj} (e:h.get? a=some o):bL [a] h=[(a,o)]:=by simp [bL,e]
theorem BK {a:Addr} {n:Nat} {vs:List Value} {ws:List V} {ds:List Dv} {rows:List (List Dv)} {P:OX→c_→Prop}
 (G:FnOk X.prog X.w X.K X.mg X.base CX0 k f fd ps (spF X.K F ps.length)) (hr:Room k A') (hfr:A'.frames=X.A.frames) (hb:Binds X.K fd ps []) (h1:ps.length=1)
 (I:Inv X pins σ H s) (ho:s.heap.get? a=some (Ii "list" vs.toArray n)) (hna:H a=none) (fpa:∀ H',H' a=none→oH X pins H' a) (rv:Vals ws vs) (rw':Reps X.K H ds ws) (im:imms ds=true)
 (hkey:∀ (i:Nat) (d:Dv),ds[i]?=some d→∃ es,rows[i]?=some es∧F [d]=some (.ok (.tup es))) (hlen:rows.length=ds.length) (hok:fD rows=true) (imk:imms (rows.map Dv.tup)=true)
 (h:∀ (s':c_) (H':Hp) (p:Nat→Nat) (out:Array Value) (c:Nat),Inv X pins σ H' s'→H' a=none→Same H H'→s'.heap.get? a=some (Ii "list" out c)→out.size=vs.length→(∀ k,k < vs.length→out[k]?=vs[p k]?) →
   (h_ vs.length).map p=isortB (fun i j=>!(fun i j=>ltL (db rows i) (db rows j)) j i) (h_ vs.length)→(∀ k,k < vs.length→p k < vs.length)→P (.done (.ret .none)) s') :
 k_ (p_ X.prog X.w) A' (ksk_tree a (.ref f) false) P E s:=by
 have h64:vs.length < 64:=by
  simp only [fD,j_,decide_eq_true_eq] at hok
  have g1:=cK rw'; have g2:=rv.length
  omega
 have ha:a < s.heap.objs.size:=o_ ho
 obtain ⟨g0,g1,g2,g3⟩:=fpa _ hna
 unfold ksk_tree
 refine b_ (KT ho rfl ?_)
 refine b_ (LR ho rfl ?_ (line64 (by simpa using h64)))
 obtain ⟨e1,ho1⟩:∃ e1,(s.heap.update a (HB fun _=>(#[]:Array Value))).get? a=some (Ii "list" #[] e1):=⟨_,K8 ho fun _=>#[]⟩
 have I1:=I.turned (t':=s.toks) (h':=s.heap.update a (HB fun _=>(#[]:Array Value))) (it:=a) (fun b o hb q=>by rw [Jb _ _ _ _ hb]; exact q) g0 g1 g3.1 g3.2.1 g3.2.2
 refine b_ (seqEpoch_at ho1 rfl ?_)
 refine b_ (wpAny_newTuple ?_ (line64 (by simpa using h64)))
 refine b_ (MM ?_)
 refine HX ?_
 have I2:=I1.kept (t':=s.toks) (h':=(s.heap.update a (HB fun _=>(#[]:Array Value))).push (Ii "tuple" vs.toArray 0)) fun b u q=>e_ _ q
 have sz2:((s.heap.update a (HB fun _=>(#[]:Array Value))).push (Ii "tuple" vs.toArray 0)).objs.size=s.heap.objs.size + 1:=by rw [size_push',OW]
 have fr:H ((s.heap.update a (HB fun _=>(#[]:Array Value))).push (Ii "tuple" vs.toArray 0)).objs.size=none:=I2.hok.fresh (n_ _)
 have I3:=I2.laid (t':=s.toks) (h':=((s.heap.update a (HB fun _=>(#[]:Array Value))).push (Ii "tuple" vs.toArray 0)).push (Ii "list" #[] 0)) (o:=.lst []) (fun b u q=>e_ _ q) (n_ _) ⟨Hq _,[],0,.nil,i_ _ rfl⟩
 have ho3:(((s.heap.update a (HB fun _=>(#[]:Array Value))).push (Ii "tuple" vs.toArray 0)).push (Ii "list" #[] 0)).get? a=some (Ii "list" #[] e1):=e_ _ (e_ _ ho1)
 have hne:((s.heap.update a (HB fun _=>(#[]:Array Value))).push (Ii "tuple" vs.toArray 0)).objs.size≠a:=by rw [sz2]; exact Kn (HP ha)
 have I4:=I3.pinned (fp:=[a]) (fun b hb=>by
  have:b=a:=by simpa using hb
  subst this
  exact fpa _ (by rw [al hne.symm]; exact hna)) (fun b hb=>by
  have:b=a:=by simpa using hb
  subst this
  exact ⟨_,ho3,fun v z=>by cases z⟩)
 rw [rR ho3] at I4
 refine BJ G hr hfr hb h1 I4 ak hne rv (Reps.mono (aq fr _) _ _ rw') im hkey hlen hok imk fpa fun s' H' p out c J ja sm e o1 o2 o3 o4=>h s' H' p out c J ja (fun b u q=>sm b u (fun z=>?_) ?_) e o1 o2 o3 o4
 · rw [z,fr] at q; cases q
 · rw [al (fun z=>by rw [z,fr] at q; cases q)]; exact q
theorem lW {M:MD} {A:w_} {l:Addr} {vs:List Value} {o:Obj} {n:Nat} {c:String} {Q:List Value→c_→Prop} {prog:Program} {w:D_} (ho:s.heap.get? l=some o) (hc:o.cls=.type c) (hd:o.data=.seq vs.toArray n) (h2:(m_ c == m_ "list" || m_ c == m_ "tuple")=true)
 (h:∀ h',(∀ b o,s.heap.get? b=some o→h'.get? b=some o)→s.heap.objs.size < h'.objs.size→Q vs { s with heap:=h' }) (hsz:vs.length≤sizeLine):k_ (p_ prog w) A (collect (.ref l)) Q E s:=by
 unfold collect
 refine b_ (Ln (Ic entry_proto_collect' ?_))
 show k_ _ _ (do Pu (.builtin "list.__iadd__" ⟨[← newList [],.ref l],[]⟩)) _ _ s
 refine b_ (MM (d_ ⟨Km _ (by decide +kernel),Ic entry_list_iadd' ?_⟩))
 show k_ _ _ (Jq (.ref s.heap.objs.size) (.ref l) (.ref s.heap.objs.size)) _ _ { s with heap:=s.heap.push (Ii "list" #[] 0) }
 unfold Jq
 have ho':(s.heap.push (Ii "list" #[] 0)).get? l=some o:=e_ _ ho
 refine b_ (JH (T:=c) ⟨o,ho',hc⟩ ?_)
 rw [if_pos (by rw [Bool.or_assoc,h2]; simp)]
 refine b_ (KT ho' hd ?_)
 refine b_ (KT (xs:=#[]) (n:=0) (i_ _ rfl) rfl ?_)
 rw [if_neg (by simp)]
 refine b_ (LR (xs:=#[]) (n:=0) (i_ _ rfl) rfl ?_ (Hq _) (by simp only [ML,uk,List.length_nil]; show 0 + vs.length≤_; omega))
 refine d_ ?_
 show k_ (p_ prog w) A (do
  let o ← load s.heap.objs.size
  match o.data with
  | .seq xs _=>pure xs.toList
  | _=>Nz "internal:collect") Q E { s with heap:=(s.heap.push (Ii "list" #[] 0)).update s.heap.objs.size (HB (· ++ vs.toArray)) }
 refine b_ (wpAny_load (K8 (i_ _ rfl) _) ?_)
 show k_ _ _ (pure ((#[]:Array Value) ++ vs.toArray).toList) Q E _
 rw [show ((#[]:Array Value) ++ vs.toArray).toList=vs by simp]
 refine d_ (h _ (fun b o' q=>?_) ?_)
 · have:=o_ q
   rw [Jb _ _ _ _ (t_ this),OE _ _ _ (t_ this)]
   exact q
 · rw [OW,size_push']; exact Ij _
end
section
variable {X:Cx} {pins:List (Addr×Obj)} {σ:L2.St} {H:Hp} {s:c_} {k:Nat} {f:Addr} {fd:Iu} {ps:List Str} {F:List Dv→Option (Rs Dv)} {E:Value→c_→Prop}
theorem u5 {l:Addr} {o:Obj} {n:Nat} {c:String} {vs:List Value} {ws:List V} {ds:List Dv} {rows:List (List Dv)} {Q:VK}
 (G:FnOk X.prog X.w X.K X.mg X.base CX0 k f fd ps (spF X.K F ps.length)) (hr:Room (k + 2) X.A) (hb:Binds X.K fd ps []) (h1:ps.length=1)
 (I:Inv X pins σ H s) (ho:s.heap.get? l=some o) (hc:o.cls=.type c) (hd:o.data=.seq vs.toArray n) (h2:(m_ c == m_ "list" || m_ c == m_ "tuple")=true) (rv:Vals ws vs) (rw':Reps X.K H ds ws)
 (hkr:eH F ds=some rows) (hok:fD rows=true) (im:imms ds=true) (imk:imms (rows.map Dv.tup)=true)
 (q:∀ (L:Addr) (ws':List V) (H':Hp),Same H H'→H' L=some (.lst ws')→Reps X.K H' (h8 rows ds) ws'→Q (.ref L) H') :
 k_ (p_ X.prog X.w) X.A (call (.builtin "sorted") [.ref l] [(a_ "key",.ref f)]) (EP X pins σ Q) E s:=by
 obtain ⟨hlen,hkey⟩:=i0 hkr
 have hws:ds.length=ws.length:=cK rw'
 have hvs:ws.length=vs.length:=rv.length
 have h64:vs.length < 64:=by
  simp only [fD,j_,decide_eq_true_eq] at hok
  omega
 refine call_function_entry_kw kind_sorted plain_sorted entry_sorted (ksk_s1 _ _) ?_
 unfold Jw.«sorted»
 refine b_ (m:=checkCount "sorted" 1 1 _) (d_ ?_)
 refine b_ (lW (M:=p_ X.prog X.w) ho hc hd h2 (fun h1' up gr=>?_) (line64 h64))
 refine b_ (MM ?_ (line64 h64))
 have I1:=I.kept (t':=s.toks) (h':=h1'.push (Ii "list" vs.toArray 0)) fun b u z=>e_ _ (up b u z)
 have hoL:(h1'.push (Ii "list" vs.toArray 0)).get? h1'.objs.size=some (Ii "list" vs.toArray 0):=i_ _ rfl
 have hfr:H h1'.objs.size=none:=I.hok.fresh (Jj gr)
 have fpa:∀ H',H' h1'.objs.size=none→oH X pins H' h1'.objs.size:=fun H' hn=>I.fpOk (Jj gr) hn
 refine b_ (HX (wpAny_call_entry_kw slot_list_sort ⟨_,hoL,rfl⟩ entry_list_sort ?body (ksk_l1 _ _)))
 case body =>
  show k_ (p_ X.prog X.w) X.A.in1.in1 (Jw.«list.sort» ⟨[.ref h1'.objs.size],[(a_ "key",.ref f)]⟩) _ _ _
  rw [ksk_t1]
  refine BK (s:={ s with heap:=h1'.push (Ii "list" vs.toArray 0) }) G (hr.in1.in1) rfl hb h1 I1 hoL hfr fpa rv rw' im hkey hlen hok imk fun s' H' p out cc J ja sm e o1 o2 o3 o4=>⟨_,rfl,?_⟩
  refine d_ ⟨_,rfl,?_⟩
  obtain ⟨g0,g1,g2,g3,g4,g5⟩:=fpa _ ja
  have J2:=J.pinned (fp:=[h1'.objs.size]) (fun b hb'=>by
   have:b=h1'.objs.size:=by simpa using hb'
   subst this
   exact fpa _ ja) (fun b hb'=>by
   have:b=h1'.objs.size:=by simpa using hb'
   subst this
   exact ⟨_,e,fun v z=>by cases z⟩)
  rw [rR e] at J2
  have hV:Vals ((h_ vs.length).map fun k=>ws.getD (p k) .non) out.toList:=by
   refine pf (by simp [o1]) fun i v u ev eu=>?_
   have hi:i < vs.length:=by
    have:=(v_.mp eu).1
    simp [o1] at this
    omega
   have eu':out[i]?=some u:=by simpa using eu
   rw [o2 i hi] at eu'
   rw [Hz,K0 hi] at ev
   simp only [JE,KB] at ev
   have hp:p i < ws.length:=by rw [hvs]; exact o4 i hi
   have e1:ws[p i]?=some v:=by rw [u_ hp,← ev]; simp [Kg,hp]
   obtain ⟨u',e2,r2⟩:=rv.get e1
   rw [e2] at eu'
   cases eu'
   exact r2
  have hR:Reps X.K H' (h8 rows ds) ((h_ vs.length).map fun k=>ws.getD (p k) .non):=by
   have hn:vs.length=ds.length:=by omega
   rw [← rQ hlen,← hn,← o3,IC]
   refine pe (by simp) fun i d v ed ev=>?_
   have hi:i < vs.length:=by
    have:=(v_.mp ed).1
    simpa using this
   rw [Hz,K0 hi] at ed ev
   simp only [JE,KB,PH] at ed ev
   have hp:p i < ws.length:=by rw [hvs]; exact o4 i hi
   have hp':p i < ds.length:=by omega
   refine lU (Reps.mono sm _ _ rw') (p i) d v ?_ ?_
   · rw [u_ hp',← ed]; simp [Kg,hp']
   · rw [u_ hp,← ev]; simp [Kg,hp]
  have e':(h1'.objs.size,Ii "list" out cc)=(h1'.objs.size,xF out.toList cc):=by simp [Ii,xF]
  rw [e'] at J2
  obtain ⟨ha',J3⟩:=Inv.retrack J2 hV (line64 (by simp; omega)) (fun o' z=>by
   exfalso
   rcases g3 with g3 | g3
   · exact absurd (I.ok) (fun _=>by
      have:=LW (h:=X.s₀.heap) (a:=h1'.objs.size) (Hm I.sz (Jj gr))
      rw [this] at z
      cases z)
   · have:=LW (h:=X.s₀.heap) (a:=h1'.objs.size) g3
     rw [this] at z
     cases z) g5
  refine ⟨.ref h1'.objs.size,_,J3,rfl,q _ _ _ (fun b u z=>?_) ak (Reps.mono (aq ja _) _ _ hR)⟩
  exact aq ja _ b u (sm b u z)
end
section
variable {X:Cx} {k' n:Nat} {ps:List Str} {x:Str} {p p2 kp pos:Pos} {e:Expr} {F:List Dv→Option (Rs Dv)} {g:FnA}
theorem u8 (k:Nat) (ps:List Str) (F:List Dv→Option (Rs Dv)) (h:Has X.prog X.w X.K X.mg X.base x k ps F) (hr:Room k' X.A) (hk:k + 2≤k') (h1:ps.length=1) (hg:Gl X "sorted") (hm:X.mg "sorted"=none) (hgx:Gl X x) (ha:FA X [e] g)
 (hdb:(x == ("__debug__":Str))=false:=by kernel_rfl)
 (he:Ho pos (f_ [e] X.env)=(false,eval e X.env) :: Ho pos (f_ [] X.env):=by kernel_rfl)
 (hplain:(Ho pos (f_ [e] X.env)).any (·.1)=false:=by kernel_rfl)
 (hall:(Jn pos (Io [⟨some "key",.Name x p2,kp⟩] X.env)).all (·.1.isSome)=true:=by kernel_rfl)
 (hkw:(Jn pos (Io [⟨some "key",.Name x p2,kp⟩] X.env)).any (·.1.isNone)=false:=by kernel_rfl)
 (hnm:(Jn pos (Io [⟨some "key",.Name x p2,kp⟩] X.env)).filterMap (·.1)=[a_ "key"]:=by kernel_rfl) :
 FE X (.Call (.Name "sorted" p) [e] [⟨some "key",.Name x p2,kp⟩] pos) (fB1 (ph F) g):=⟨fun pins s σ H Q I ⟨ρ,E,o⟩=>by
 obtain ⟨f,fd,G,hmx,hkp,hb⟩:=h
 refine Ix (dh I hg hm (u:=.builtin "sorted") (by decide +kernel) ?_ (by decide) (by decide))
 refine callWith_kw (thn (ha.h pos pins s σ H _ I ⟨ρ,E,OutA.bind o fun ds vs H1 e1 rs o1=>(show ∃ ds,Reps X.K H1 ds vs∧Out X H1 (ph F ds) Q from ⟨ds,rs,o1⟩)⟩) fun us s1 ⟨vs,H1,I1,r1,ds,rs,o1⟩=>?_) he hplain hall hkw
 refine kws_cons (fN I1 hgx hmx (kws_nil ?_) hdb)
 rw [hnm]
 show k_ _ _ (call (.builtin "sorted") us [(a_ "key",.ref f)]) _ _ s1
 unfold ph at o1
 have fin:∀ (l:Addr) (xs:List V) (es:List Dv) (ob:Obj) (n:Nat) (c:String) (its:List Value),s1.heap.get? l=some ob→ob.cls=.type c→ob.data=.seq its.toArray n→(m_ c == m_ "list" || m_ c == m_ "tuple")=true→Vals xs its→Reps X.K H1 es xs→Out X H1 (iZ F es) Q →
  k_ (p_ X.prog X.w) X.A (call (.builtin "sorted") [.ref l] [(a_ "key",.ref f)]) (EP X pins σ Q) X.xe s1:=by
  intro l xs es ob n c its q1 q2 q3 q4 rv rx o2
  unfold iZ at o2
  split at o2
  · rename_i rows hrows
    split at o2
    · rename_i hcond
      exact u5 G (hr.mono hk) hb h1 I1 q1 q2 q3 q4 rv rx hrows hcond.1 hcond.2.1 hcond.2.2 fun L ws' H' sm hL rw'=>o2 _ _ sm ⟨L,ws',rfl,hL,rw'⟩
    · exact o2.elim
  · exact o2.elim
 split at o1
 · rename_i es
   obtain ⟨v,rfl,r⟩:=bD rs
   obtain ⟨l,xs,rfl,hl,rx⟩:=r.lstE
   obtain ⟨u,rfl,ru⟩:=cT r1
   cases (show u=xy l from ru)
   obtain ⟨z,its,n,rv,hz,eh⟩:=I1.lstM hl
   exact fin l xs es _ n "list" its eh rfl rfl rfl rv rx o1
 · rename_i es
   obtain ⟨v,rfl,r⟩:=bD rs
   obtain ⟨l,xs,rfl,hl,rx⟩:=r.tupE
   obtain ⟨u,rfl,ru⟩:=cT r1
   cases (show u=xy l from ru)
   obtain ⟨its,rv,⟨ob,q1,q2,n,q3⟩,hz⟩:=I1.tuple (SqT.of hl)
   exact fin l xs es ob n "tuple" its q1 q2 q3 rfl rv rx o1
 · exact o1.elim⟩
end
end FD
namespace FD
open PySem PySem.Spec PyProof.Rows L2
section
variable {X:Cx} {p pos:Pos} {e:Expr} {es:List Expr} {ga:FnA}
end
end FD
namespace TS
open PySem PySem.Spec PyProof.Rows L2 FD
def we (p q:Value) (e l:Bool):Prop:=∀ (prog:Program) (w:D_) (A:w_) (E:Value→c_→Prop) (s:c_),
 (∀ Q:Bool→c_→Prop,Q e s→k_ (p_ prog w) A (eqBool p q) Q E s)∧(∀ Q:Value→c_→Prop,Q (.bool l) s→k_ (p_ prog w) A (richCompare .Lt p q) Q E s)
inductive ib:List (Value×Value)→List (Bool×Bool)→Prop
 | nil:ib [] []
 | cons {p q:Value} {e l:Bool} {ps:List (Value×Value)} {rs:List (Bool×Bool)}:we p q e l→ib ps rs→ib ((p,q) :: ps) ((e,l) :: rs)
theorem kY {K:ck} {H:Hp}:∀ {es es':List Dv} {us us':List V} {tis tis':List Value},sig es=sig es'→da (sig es)=true→Reps K H es us→Reps K H es' us'→Vals us tis→Vals us' tis' →
 ∃ rs,ib (tis.zip tis') rs∧(cj rs).getD false=ltL es es'
 | [],[],us,us',tis,tis',_,_,r,r',v,v'=>by
  cases (show us=[] from r)
  cases v
  exact ⟨[],.nil,rfl⟩
 | x :: es,y :: es',us,us',tis,tis',s,hk,r,r',v,v'=>by
  obtain ⟨u,us1,rfl,r1,r2⟩:∃ v us1,us=v :: us1∧Rep K H x v∧Reps K H es us1:=r
  obtain ⟨u',us1',rfl,r1',r2'⟩:∃ v us1,us'=v :: us1∧Rep K H y v∧Reps K H es' us1:=r'
  simp only [sig,y_,Nq] at s
  simp only [sig,da,y_,Im,j_,bne_iff_ne,ne_eq] at hk
  cases v with
  | cons v1 v2 =>
   cases v' with
   | cons v1' v2' =>
    obtain ⟨rs,i1,i2⟩:=kY s.2 (by simpa [da,sig] using hk.2) r2 r2' v2 v2'
    rename_i b1 l1 b2 l2
    have one:∀ (p q:Value) (e l:Bool),we p q e l→(if e=true then ltL es es' else l)=ltL (x :: es) (y :: es')→∃ rs,ib ((p,q) :: l1.zip l2) rs∧(cj rs).getD false=ltL (x :: es) (y :: es'):=fun p q e l h z =>
     ⟨(e,l) :: rs,.cons h i1,by rw [cm,i2]; exact z⟩
    cases x with
    | str a =>
     cases y with
     | str b =>
      cases (show u=.str a from r1)
      cases (show u'=.str b from r1')
      obtain ⟨t,rfl⟩:=v1
      obtain ⟨t',rfl⟩:=v1'
      exact one _ _ _ _ (fun prog w A E s=>⟨(nJ A a b t t' prog w E s).1,fun Q h=>(N2 h:k_ (p_ prog w) A (Hu .Lt (.str a t) (.str b t')) Q E s)⟩) rfl
     | _=>exact absurd s.1 (by simp [kdI])
    | int a =>
     cases y with
     | int b =>
      cases (show u=.int a from r1)
      cases (show u'=.int b from r1')
      obtain ⟨t,rfl⟩:=v1
      obtain ⟨t',rfl⟩:=v1'
      exact one _ _ _ _ (fun prog w A E s=>⟨(nK A a b t t' prog w E s).1,fun Q h=>(N3 h:k_ (p_ prog w) A (Hu .Lt (.int a t) (.int b t')) Q E s)⟩) rfl
     | _=>exact absurd s.1 (by simp [kdI])
    | bl a =>
     cases y with
     | bl b =>
      cases (show u=.bl a from r1)
      cases (show u'=.bl b from r1')
      cases v1
      cases v1'
      exact one _ _ _ _ (fun prog w A E s=>⟨(rG A a b prog w E s).1,fun Q h=>(NN h:k_ (p_ prog w) A (Hu .Lt (.bool a) (.bool b)) Q E s)⟩) rfl
     | _=>exact absurd s.1 (by simp [kdI])
    | _=>exact absurd rfl hk.1
 | [],_ :: _,_,_,_,_,s,_,_,_,_,_=>by simp [sig] at s
 | _ :: _,[],_,_,_,_,s,_,_,_,_,_=>by simp [sig] at s
section
open PySem.SeqAt
open PySem.AutoSeq1 (wpAny_loadPart')
open PySem.MeetsSeq PySem.MeetsSeq2 PySem.MeetsSeq3
theorem rS (l b:Addr) (items items2:Array Value) (n n2:Nat) (dd dd2:Option Addr) (sl sl2:Array (Option Value)) (rs:List (Bool×Bool)) (hi:ib (items.toList.zip items2.toList) rs) (hz:items.size=items2.size) :
 Meets (Jw.«tuple.__lt__» ⟨[.ref l,.ref b],[]⟩)
  (fun _ R s=>s.heap.get? l=some { cls:=.type "tuple",dict:=dd,data:=.seq items n,slots:=sl }∧s.heap.get? b=some { cls:=.type "tuple",dict:=dd2,data:=.seq items2 n2,slots:=sl2 } ∧
    R (.ok (.ret (.bool ((cj rs).getD false)))) s) :=
 .of_wp fun prog w A R s h=>by
  obtain ⟨hp,g,d,tk,os⟩:=s; obtain ⟨hl,hb,h⟩:=h
  have f2:=AutoSeq1.sub_tuple_tuple
  wp_walk using wpAny_loadPart' hl,wpAny_loadPart' hb,LM _ (fun rest b s'=>b.1=none∧s'=⟨hp,g,d,tk,os⟩∧∃ rs',ib rest rs'∧R (.ok (.ret (.bool ((cj rs').getD false)))) ⟨hp,g,d,tk,os⟩) _
  case turn =>
   rintro ⟨y,x⟩ rest b s' ⟨hb',rfl,rs',hI,hR⟩
   cases hI with
   | cons i r =>
    rename_i e lw rs''
    rw [cm] at hR
    refine b_ ((i prog w _ _ _).1 _ ?_)
    cases e with
    | true =>
     wp_walk
     exact ⟨rfl,rfl,_,r,by simpa using hR⟩
    | false =>
     have hri:=fun Q h=>(i prog w A.in1 (fun e s'=>R (.error e) s') ⟨hp,g,d,tk,os⟩).2 Q h
     wp_walk using hri
     exact ⟨_,rfl,by simpa using hR⟩
  case fin =>
   rintro ⟨b1,b2⟩ s' ⟨hb',rfl,rs',hI,hR⟩
   simp only at hb'
   subst hb'
   cases hI
   wp_walk
   exact ⟨_,rfl,by simpa [Builtin.Tuple.tupleCompareSizes,hz,cj] using hR⟩
  case h =>
   exact ⟨rfl,rfl,rs,hi,h⟩
end
end TS
namespace FD
open PySem PySem.Spec PyProof.Rows L2 TS
def ltT:Dv→Dv→Option (Rs Dv)
 | .tup xs,.tup ys=>if sig xs=sig ys∧da (sig xs)=true then some (.ok (.bl (ltL xs ys))) else none
 | _,_=>none
def Gk (K:ck):R2:=fun x y H Q=>∃ a b us us' es es',x=.ref a∧y=.ref b∧H a=some (.tup us)∧H b=some (.tup us')∧Reps K H es us∧Reps K H es' us'∧sig es=sig es'∧da (sig es)=true∧Q (.bl (ltL es es')) H
section
variable {X:Cx}
theorem EW (hu:X.A.units + 64 < cLine):OpR X (Hu .Lt) (Gk X.K):=by
 intro pins s σ H x y v u Q I rx ry h
 obtain ⟨a,b,us,us',es,es',rfl,rfl,ha,hb,r,r',hs,hk,q⟩:=h
 cases rx
 cases ry
 obtain ⟨its,r1,p1,_⟩:=I.tuple (SqT.of ha)
 obtain ⟨its2,r2,p2,_⟩:=I.tuple (SqT.of hb)
 obtain ⟨rs,i1,i2⟩:=kY hs hk r r' r1 r2
 obtain ⟨⟨cls,dd,data,sl⟩,ho,hc,n,hd⟩:=id p1
 obtain ⟨⟨cls2,dd2,data2,sl2⟩,ho2,hc2,n2,hd2⟩:=id p2
 simp only at hc hd hc2 hd2
 subst hc hd hc2 hd2
 have hz:its.toArray.size=its2.toArray.size:=by
  have e1:=r1.length
  have e2:=r2.length
  have e3:=r.length
  have e4:=r'.length
  have e5:=congrArg Pe hs
  simp only [sig,HF] at e5
  simp only [uk]
  omega
 rw [← i2] at q
 exact richCompare_meets_room (op:=.Lt) ⟨_,ho,rfl⟩ ⟨_,ho2,rfl⟩ PySem.F.slot_tuple_lt PySem.F.entry_tuple_lt (PySem.F.args_tuple_lt_2 _ _) (rS a b its.toArray its2.toArray n n2 dd dd2 sl sl2 rs i1 hz)
  ⟨ho,ho2,show Ig ((cj rs).getD false)≠Value.notImplemented∧_ from ⟨(fun x=>nomatch x),.bl ((cj rs).getD false),H,I,rfl,q⟩⟩ (by omega)
theorem EY:GOp X (Gk X.K) ltT:=by
 intro dx dy x y H Q rx ry o
 cases dx <;> cases dy <;> try exact (show False from o).elim
 rename_i xs ys
 by_cases h:sig xs=sig ys∧da (sig xs)=true
 · have o:Out X H (some (.ok (.bl (ltL xs ys)))) Q:=by
    have e:ltT (.tup xs) (.tup ys)=some (.ok (.bl (ltL xs ys))):=if_pos h
    rwa [e] at o
   obtain ⟨a,us,rfl,ha,r⟩:=rx.tupE
   obtain ⟨b,us',rfl,hb,r'⟩:=ry.tupE
   exact ⟨a,b,us,us',xs,ys,rfl,rfl,ha,hb,r,r',h.1,h.2,o _ H (.refl H) rfl⟩
 · have e:ltT (.tup xs) (.tup ys)=none:=if_neg h
   rw [e] at o
   exact o.elim
end
end FD
namespace FD
open PySem PySem.Spec PyProof.Rows L2
def aj (X:Cx) (N:List Str) (scope:Scope) (C:Addr) (s:c_) (H:Hp) (fp:List Addr):Cx :=
 { X with N:=N,s₀:=s,H₀:=H,env:=Ow scope (HK (C + 1) scope.names (gd scope.names X.env [])) C X.env,outer:=X.stack,stack:=X.stack,ex:=fp,fn:=fun y=>scope.names.lookup y == some .cell,pn:=[],xe:=fun _ _=>False }
structure ic (osc scope:Scope) (cs:List (Str×Nat)) (N:List Str):Prop where
 kind:scope.kind=.function
 one:∀ y∈scope.names,y.2=.cell→scope.names.lookup y.1=some .cell
 names:∀ y∈scope.names,y.2=.local→scope.names.lookup y.1=some .local
 free:∀ y∈scope.names,y.2=.free→osc.names.lookup y.1=some .cell∨osc.names.lookup y.1=some .free
 caps:∀ c∈cs,N[c.2]?=some c.1∧scope.names.lookup c.1=some .free
theorem fE:∀ (names:List (Str×Kb)) (lo:Nat) (acc:List (Str×Addr)),HK lo names acc=HK lo names [] ++ acc
 | [],_,_=>rfl
 | (n,k) :: r,lo,acc=>by
  unfold HK
  split
  · rw [fE r (lo + 1) ((n,lo) :: acc),fE r (lo + 1) [(n,lo)],KG]; rfl
  · exact fE r lo acc
theorem rT:∀ {names:List (Str×Kb)} {lo:Nat} {n:Str} {c:Addr},(n,c)∈HK lo names []→(n,Ji)∈names
 | [],_,_,_,h=>(nomatch h)
 | (m,k) :: r,lo,n,c,h=>by
  unfold HK at h
  split at h
  · rename_i hk
    rw [fE] at h
    rcases HC.mp h with q | q
    · exact l_ _ (rT q)
    · have e:n=m:=by simp at q; exact q.1
      have ek:k=.cell:=by simpa using hk
      subst e ek
      exact g_
  · exact l_ _ (rT h)
theorem nW:∀ {names:List (Str×Kb)} {lo:Nat} {n:Str},(n,Ji)∈names→((HK lo names []).lookup n).isSome=true
 | [],_,_,h=>(nomatch h)
 | (m,k) :: r,lo,n,h=>by
  unfold HK
  rcases on.mp h with e | q
  · cases e
    rw [if_pos (by decide),fE,Kq]
    cases hl:(HK (lo + 1) r []).lookup m with
    | some _=>rfl
    | none=>simp
  · split
    · rw [fE,Kq]
      have:=nW (lo:=lo + 1) q
      cases hl:(HK (lo + 1) r []).lookup n with
      | some _=>rfl
      | none=>rw [hl] at this; cases this
    · exact nW q
theorem ya {M:MD} {A:w_} {E:Value→c_→Prop} {s:c_} {scope:Scope} {globals:Addr} {cl:List (Str×Addr)} {qual:Str} {env:Env} {Q:Env→c_→Prop} (hk:scope.kind=.function)
 (hQ:Q (newEnv scope s.heap.objs.size globals (HK (s.heap.objs.size + 1) scope.names cl) qual none .none (some env) Oe) { s with heap:=pushCells (s.heap.push { cls:=.type "dict",data:=.dict #[] }) scope.names }) :
 k_ M A (NB scope globals cl [] qual none .none (some env)) Q E s:=by
 simp only [NB,Option.isSome_some,if_true]
 refine b_ (wpAny_alloc ?_)
 refine b_ (wpAny_layCells _ (fun name kind cells=>by cases hkc:kind == Ji <;> simp [hkc]) _ _ _ _ ?_)
 rw [show ({ s with heap:=s.heap.push { cls:=.type "dict",data:=.dict #[] } }:c_).heap.objs.size=s.heap.objs.size + 1 from F_ ..]
 refine b_ ?_
 rw [NQ]
 exact d_ (d_ hQ)
theorem rV {X:Cx} {pins:List (Addr×Obj)} {σ:L2.St} {H:Hp} {s:c_} {scope:Scope} {ns:List Str} {cs:List (Str×Nat)} {fp:List Addr} {h₁:Heap} {C:Addr} {t':Nat} (ok:ic X.env.scope scope cs X.N) (I:Inv X pins σ H s) (hfp:∀ b∈fp,oH X pins H b) (hlt:∀ b∈fp,b < s.heap.objs.size)
 (hC:s.heap.objs.size≤C) (hns:h₁.Ns C fun _=>none) (old:∀ b o,s.heap.get? b=some o→h₁.get? b=some o) (hck:CellsOk h₁ (C + 1) (HK (C + 1) scope.names [])) :
 Inv (aj X (ns ++ cs.map (·.1)) scope C s H fp) [] (kq ns.length cs σ) H { s with heap:=h₁,toks:=t' }:=by
 have cl1:∀ n c,(gd scope.names X.env []).lookup n=some c→X.env.cells.lookup n=some c:=fun n c e=>by
  rcases iN _ _ e with q | ⟨q1,q2⟩
  · simp at q
  · obtain ⟨c',e'⟩:=I.ok.has n (ok.free _ q1 rfl)
    rw [e'] at q2
    rw [e',q2] <;> rfl
 have lk:∀ n c,(aj X (ns ++ cs.map (·.1)) scope C s H fp).env.cells.lookup n=some c→(n,c)∈HK (C + 1) scope.names []∨((n,Ji) ∉ scope.names∧(gd scope.names X.env []).lookup n=some c):=fun n c e=>by
  have e':(HK (C + 1) scope.names (gd scope.names X.env [])).lookup n=some c:=e
  rw [fE,Kq] at e'
  cases hl:(HK (C + 1) scope.names []).lookup n with
  | some c'=>rw [hl] at e'; cases e'; exact .inl (mem_of_lookup hl)
  | none =>
   rw [hl] at e'
   refine .inr ⟨fun hm=>?_,e'⟩
   have:=nW (lo:=C + 1) hm
   rw [hl] at this
   cases this
 have lk2:∀ n c,(n,Ji) ∉ scope.names→(gd scope.names X.env []).lookup n=some c→(aj X (ns ++ cs.map (·.1)) scope C s H fp).env.cells.lookup n=some c:=fun n c hm e=>by
  show (HK (C + 1) scope.names (gd scope.names X.env [])).lookup n=some c
  rw [fE,Kq]
  cases hl:(HK (C + 1) scope.names []).lookup n with
  | some c'=>exact absurd (rT (mem_of_lookup hl)) hm
  | none=>exact e
 have big:∀ n c,(n,c)∈HK (C + 1) scope.names []→s.heap.objs.size < c:=fun n c hm=>x_ (Nat.lt_succ_of_le hC) (hck.empty n c hm).2
 have low:∀ n c,(gd scope.names X.env []).lookup n=some c→c < s.heap.objs.size:=fun n c e=>by
  obtain ⟨v,o,ho,_⟩:=I.cell n c (cl1 n c e)
  exact o_ ho
 have inj:∀ y z c,(aj X (ns ++ cs.map (·.1)) scope C s H fp).env.cells.lookup y=some c→(aj X (ns ++ cs.map (·.1)) scope C s H fp).env.cells.lookup z=some c→y=z:=fun y z c e1 e2=>by
  rcases lk y c e1 with p | ⟨_,p⟩ <;> rcases lk z c e2 with q | ⟨_,q⟩
  · exact name_of_addr hck.apart p q
  · exact absurd (Nm (big y c p) (low z c q)) (Ik _)
  · exact absurd (Nm (big z c q) (low y c p)) (Ik _)
  · exact I.ok.inj y z c (cl1 y c p) (cl1 z c q)
 refine ⟨⟨I.ok.mod,ok.kind,I.ok.glob,I.ok.blt,hC,inj,fun y hy=>?_,fun y c hfn e=>?_,I.ok.hd,I.ok.frames,.inl rfl,fun b hb=>⟨fun z=>?_,fun y c e=>?_⟩,I.bs,Hm I.ok.bsz I.sz,fun b o e hb=>?_,fun b hb z=>?_,I.stack,I.stkFree⟩,
  rfl,I.bare,Un.kept old,⟨_,hns,fun i y v h1 h2 h3=>?_⟩,fun y c e=>?_,I.hok.fresh hC,fun y c e=>?_,fun p hp=>absurd (show p∈([]:List (Addr×Obj)) from hp) (by simp),I.hok.kept old,by simp [kq,aj]⟩
 · have hm:(y,Ji)∈scope.names∨(y,IW)∈scope.names:=by
    rcases hy with hy | hy
    · rcases gf hy with q | ⟨_,q⟩
      · exact .inl q
      · exact .inr q
    · rcases gf hy with q | ⟨q,_⟩
      · exact .inr q
      · cases q
   by_cases hcl:(y,Ji)∈scope.names
   · obtain ⟨c,hc'⟩:=JV.mp (nW (lo:=C + 1) hcl)
     refine ⟨c,?_⟩
     show (HK (C + 1) scope.names (gd scope.names X.env [])).lookup y=some c
     rw [fE,Kq,hc']
     rfl
   · obtain ⟨c,hc'⟩:=JV.mp (jq (env:=X.env) scope.names [] (hm.resolve_left hcl))
     exact ⟨c,lk2 y c hcl hc'⟩
 · have hfn':scope.names.lookup y=some .cell:=by simpa [aj] using hfn
   rcases lk y c e with p | ⟨p,_⟩
   · exact Jj (big y c p)
   · exact absurd (cU hfn') p
 · have:=hlt b hb
   rw [z] at this
   exact absurd (x_ this hC) (Ik _)
 · rcases lk y c e with p | ⟨_,p⟩
   · exact fun z=>absurd (Nm (big y c p) (z ▸ hlt b hb)) (Ik _)
   · exact (hfp b hb).2.2.2.2.1 y c (cl1 y c p)
 · rcases (hfp b hb).2.2.2.1 with z | z
   · exact I.ok.noex b o e z
   · exact absurd (x_ (o_ e) (Hm I.ok.bsz z)) (Ik _)
 · rcases on.mp (I.stkSub b z) with q | q
   · exact (hfp b hb).2.1 q
   · exact (hfp b hb).2.2.1 q
 · obtain ⟨k,rfl,h4⟩:=kr h2
   have h1':(ns ++ cs.map (·.1))[ns.length + k]?=some y:=h1
   rw [I_ (by simp)] at h1'
   simp only [M6] at h1'
   rw [Hz] at h1'
   cases hc:cs[k]? with
   | none=>rw [hc] at h1'; simp at h1'
   | some c =>
    rw [hc] at h1'
    have ey:c.1=y:=by simpa using h1'
    subst ey
    rw [Hz,hc] at h4
    simp only [JE,KB] at h4
    have h2':σ[c.2]?=some (some v):=by
     cases q:σ[c.2]? with
     | none=>rw [q] at h4; simp at h4
     | some o=>rw [q] at h4; simp at h4; rw [h4]
    obtain ⟨hN,hf⟩:=ok.caps c (Jk hc)
    have hv:=ok.free _ (cU hf) rfl
    obtain ⟨mm,_,hl⟩:=I.loc
    obtain ⟨u,r,l⟩:=hl c.2 c.1 v hN h2' (.inr hv)
    refine ⟨u,r,.inr ⟨gg hf,?_⟩⟩
    rcases l with ⟨l,_⟩ | ⟨_,a,ha,o,ho,hd⟩
    · have l':X.env.scope.names.lookup c.1=some .local:=l
      rcases hv with z | z
      · rw [l'] at z; cases z
      · rw [l'] at z; cases z
    · obtain ⟨a',ha'⟩:=JV.mp (jq (env:=X.env) scope.names [] (cU hf))
      have e2:=cl1 _ _ ha'
      rw [ha] at e2
      cases e2
      exact ⟨a,lk2 _ _ (fun hm=>by have z:=ok.one _ hm rfl; rw [hf] at z; cases z) ha',o,old _ _ ho,hd⟩
 · rcases lk y c e with p | ⟨_,p⟩
   · exact ⟨none,(hck.empty y c p).1⟩
   · obtain ⟨v,o,ho,hd⟩:=I.cell y c (cl1 y c p)
     exact ⟨v,o,old _ _ ho,hd⟩
 · rcases lk y c e with p | ⟨_,p⟩
   · exact I.hok.fresh (Jj (big y c p))
   · exact I.freeC y c (cl1 y c p)
def BL (X:Cx) (ns:List Str) (cs:List (Str×Nat)) (scope:Scope) (D:Addr) (s2:c_) (H2:Hp) (fp:List Addr) (tn:Nat→Heap→Prop) (ds ys:List Dv) (b:Dv→Ev→Option Ev) (tst:Option FnB) (fe:FnE) (ρ:Ev) (m:Nat) (s':c_):Prop :=
 ∃ i σ' H' es vs its,m=ds.length - i∧i≤ds.length∧Inv (aj X (ns ++ cs.map (·.1)) scope (D + 1) s2 H2 fp) [] σ' H' s'∧Envs X.K H' σ' (dv ns.length cs ρ)∧tn i s'.heap∧(∀ b∈fp,H' b=none)∧H' D=none∧LAt s'.heap D its∧Vals vs its∧Reps X.K H' es vs∧es.length≤i∧Same H2 H' ∧
  (match fL b tst fe (dv ns.length cs ρ) (ds.drop i) with | some zs=>es ++ zs=ys | none=>False)
theorem i4 {X:Cx} {pins:List (Addr×Obj)} {σ:L2.St} {tg elt iter:Expr} {ifs:List Expr} {scope:Scope} {pos:Pos} {ns:List Str} {tst:Option FnB} {fe:FnE} {b:Dv→Ev→Option Ev} {js:List Nat} (cs:List (Str×Nat)) (ok:ic X.env.scope scope cs X.N) (hc:X.calm=true)
 (htg:∀ C s H fp,FG (aj X (ns ++ cs.map (·.1)) scope C s H fp) tg b) (helt:∀ C s H fp,FE (aj X (ns ++ cs.map (·.1)) scope C s H fp) elt fe) (hifs:∀ C s H fp,pI (aj X (ns ++ cs.map (·.1)) scope C s H fp) ifs tst)
 (hback:∀ ρ d ρ',b d (dv ns.length cs ρ)=some ρ'→fgt js ρ'=dv ns.length cs ρ)
 {ρ:Ev} {s2:c_} {it:Addr} {fp:List Addr} {tn:Nat→Heap→Prop} {J:It} {H2:Hp} (E:Envs X.K H2 σ ρ) (I2:Inv X pins σ H2 s2) (T:tQ X.prog X.w X.K tg J fp it tn) (st2:tn 0 s2.heap) (f2:∀ b∈fp,oH X pins H2 b) {ds ys:List Dv} (wk:WkG X.K J ds H2) (hdl:ds.length≤100000) (hyl:ys.length≤100000) (hm:fL b tst fe (dv ns.length cs ρ) ds=some ys)
 {RR:Value→Addr→Ng→c_→Prop}
 (hRR:∀ (D C:Addr) (s6:c_) (H5:Hp) (vs:List V) (m6:Str→Option Value),Inv X pins σ (upd H5 D (.lst vs)) s6→H5 D=none→Same H2 H5→Reps X.K H5 ys vs→s6.heap.Ns C m6→H5 C=none→C≠D→s2.heap.objs.size≤C→RR (.ref D) C (.ok .next) s6) :
 k_ (p_ X.prog X.w) X.A (newList []) (fun acc s₃=>k_ (p_ X.prog X.w) X.A (NB scope X.env.globals (gd scope.names X.env []) [] X.env.qual none .none (some X.env)) (fun cenv s₄ =>
  Ki (p_ X.prog X.w) X.A (.compStart (.ListComp elt [⟨tg,iter,ifs,0⟩] scope pos) 0 (.ref it) acc { cenv with scope:=relabel scope X.env }) (RR acc cenv.locals) s₄) X.xe s₃) X.xe s2:=by
 have fplt:∀ b∈fp,b < s2.heap.objs.size:=fun b hb=>by
  obtain ⟨o,ho,_⟩:=T.obj _ _ st2 b hb
  exact o_ ho
 refine Hy (ya ok.kind ?_)
 dsimp only
 generalize hH2:s2.heap.push { cls:=.type "list",dict:=none,data:=.seq ([]:List Value).toArray }=P2
 obtain ⟨D,hD⟩:∃ D,s2.heap.objs.size=D:=⟨_,rfl⟩
 have hC:P2.objs.size=D + 1:=by rw [← hH2,F_,hD]
 rw [hC,hD]
 obtain ⟨h₁,hh₁⟩:∃ h,h=pushCells (P2.push { cls:=.type "dict",data:=.dict #[] }) scope.names:=⟨_,rfl⟩
 rw [← hh₁]
 have kp:∀ b o,P2.get? b=some o→h₁.get? b=some o:=fun b o e=>by rw [hh₁]; exact pushCells_keeps _ _ b o (e_ _ e)
 have old:∀ b o,s2.heap.get? b=some o→h₁.get? b=some o:=fun b o e=>kp b o (hH2 ▸ e_ _ e)
 have hacc:LAt h₁ D []:=⟨0,kp _ _ (by rw [← hH2,← hD]; exact i_ _ rfl)⟩
 have hns:h₁.Ns (D + 1) fun _=>none:=by
  rw [hh₁,← hC]
  exact (Heap.Ns.new P2 (.type "dict")).keeps (pushCells_keeps _ _)
 have hck:CellsOk h₁ (D + 1 + 1) (HK (D + 1 + 1) scope.names []):=by
  have q:=cellsFrom_ok scope.names (P2.push { cls:=.type "dict",data:=.dict #[] }) (D + 1 + 1) [] ⟨fun _ _ hm=>(nomatch hm),LA⟩ (by rw [F_,hC]; exact n_ _)
  rw [F_,hC,← hh₁] at q
  exact q
 have I4:Inv (aj X (ns ++ cs.map (·.1)) scope (D + 1) s2 H2 fp) [] (kq ns.length cs σ) H2 { s2 with heap:=h₁ }:=rV (t':=s2.toks) ok I2 f2 fplt (by rw [hD]; exact KQ D) hns old hck
 have E4:Envs X.K H2 (kq ns.length cs σ) (dv ns.length cs ρ):=qt ns.length cs E
 have HD:H2 D=none:=I2.hok.fresh (Lz hD)
 have fpD:∀ b∈fp,b≠D:=fun b hb=>wW (hD ▸ fplt b hb)
 have loop:∀ s4:c_,s4={ s2 with heap:=h₁ } →
  Ki (p_ X.prog X.w) X.A (.compLoop (.ListComp elt [⟨tg,iter,ifs,0⟩] scope pos) 0 (.ref it) (.ref D) (Ow scope (HK (D + 1 + 1) scope.names (gd scope.names X.env [])) (D + 1) X.env)) (RR (.ref D) (D + 1)) s4:=by
  rintro s4 rfl
  refine kt (fun k s'=>BL X ns cs scope D s2 H2 fp tn ds ys b tst fe ρ k s') ?_ ds.length ⟨0,kq ns.length cs σ,H2,[],[],[],by simp,Hq _,I4,E4,T.keep _ _ _ st2 fun b hb o e=>old b o e,fun b hb=>(f2 b hb).1,HD,hacc,.nil,rfl,n_ _,.refl H2,by rw [List.drop_zero,hm]; rfl⟩
  rintro k0 s5 ⟨i,σ5,H5,es,vs,its,rfl,hi5,I5,E5,t5,fr5,D5,l5,v5,r5,hel,e5,hz⟩
  have nC:∀ b∈fp,b≠D + 1:=fun b hb=>Ap (hD ▸ fplt b hb)
  have DL:D≠(aj X (ns ++ cs.map (·.1)) scope (D + 1) s2 H2 fp).env.locals:=F8
  have Dcell:∀ y c,(aj X (ns ++ cs.map (·.1)) scope (D + 1) s2 H2 fp).env.cells.lookup y=some c→c≠D:=fun y c e z=>by
   obtain ⟨v,o,ho,hd⟩:=I5.cell y c e
   obtain ⟨n,q⟩:=l5
   subst z
   rw [q] at ho
   cases ho
   cases hd
  have Dfs:D ∉ (aj X (ns ++ cs.map (·.1)) scope (D + 1) s2 H2 fp).fs:=fun z=>by
   rcases on.mp (I2.stkSub D z) with q | q
   · have z2:=I2.lt
     rw [hD] at z2
     exact wW z2 q.symm
   · exact I2.nofs (Lz hD) q
  have Dp:oH (aj X (ns ++ cs.map (·.1)) scope (D + 1) s2 H2 fp) [] H5 D:=⟨D5,DL,Dfs,.inr (Lz hD),Dcell,fun p hp=>absurd (show p∈([]:List (Addr×Obj)) from hp) (by simp)⟩
  have Dob:∀ b∈[D],∃ o,s5.heap.get? b=some o∧∀ v,o.data≠.cell v:=fun b hb=>by
   have e:b=D:=by simpa using hb
   subst e
   obtain ⟨n,q⟩:=l5
   exact ⟨_,q,fun v z=>by cases z⟩
  have I5p:Inv (aj X (ns ++ cs.map (·.1)) scope (D + 1) s2 H2 fp) (bL [D] s5.heap) σ5 H5 s5:=by
   have q:=I5.pinned (fp:=[D]) (fun b hb=>by
    have e:b=D:=by simpa using hb
    subst e; exact Dp) Dob
   rw [Ph] at q
   exact q
  have ner:∀ b∈fp,∀ p∈bL [D] s5.heap,p.1≠b:=fun b hb p hp z=>by
   have e:p.1=D:=by simpa using (gM hp).1
   exact fpD b hb (z.symm.trans e)
  have fp5':∀ b∈fp,oH (aj X (ns ++ cs.map (·.1)) scope (D + 1) s2 H2 fp) (bL [D] s5.heap) H5 b:=fun b hb=>⟨fr5 b hb,nC b hb,I4.ok.exfs b hb,.inl hb,(I4.ok.exf b hb).2,fun p hp=>ner b hb p (by simpa [aj] using hp)⟩
  have lenR:vs.length=es.length:=r5.length
  have lenV:vs.length=its.length:=v5.length
  by_cases hlt:i < ds.length
  · refine thn (T.item (aj X (ns ++ cs.map (·.1)) scope (D + 1) s2 H2 fp) rfl rfl rfl hc i (bL [D] s5.heap) s5 σ5 H5 _ I5p fp5' t5 (wk.go i H5 e5 hlt)) fun r s6 ⟨u,hr,h6⟩=>?_
    subst hr
    refine thn h6 fun _ s7 ⟨xv,H7,I7,r7,y7,t7,fr7⟩=>?_
    obtain ⟨e57,d,hd,rd⟩:=wk.yld i H5 xv H7 e5 hlt y7
    rw [fg hd] at hz
    have I7p:=I7.pinned (fp:=fp) (fun b hb=>⟨fr7 b hb,nC b hb,I4.ok.exfs b hb,.inl hb,(I4.ok.exf b hb).2,fun p hp=>ner b hb p (by simpa [aj] using hp)⟩) (T.obj _ _ t7)
    have fin:∀ {σ8:L2.St} {H8:Hp} {s8:c_},Inv (aj X (ns ++ cs.map (·.1)) scope (D + 1) s2 H2 fp) (bL [D] s5.heap ++ bL fp s7.heap) σ8 H8 s8→tn (i + 1) s8.heap∧(∀ b∈fp,H8 b=none)∧H8 D=none∧LAt s8.heap D its:=fun {σ8 H8 s8} I8=>by
     refine ⟨T.keep _ _ _ t7 fun b hb o e=>(I8.pin (b,o) (r_ _ (r_ _ (bA hb e)))).1,fun b hb=>?_,?_,?_⟩
     · obtain ⟨o,e,_⟩:=T.obj _ _ t7 b hb
       exact (I8.pin (b,o) (r_ _ (r_ _ (bA hb e)))).2.1
     · obtain ⟨n,q⟩:=l5
       exact (I8.pin (D,_) (r_ _ (Hv _ (bA (by simp) q)))).2.1
     · obtain ⟨n,q⟩:=l5
       exact ⟨n,(I8.pin (D,_) (r_ _ (Hv _ (bA (by simp) q)))).1⟩
    unfold fL at hz
    match hb:b d (dv ns.length cs ρ) with
    | none=>rw [hb] at hz; exact hz.elim
    | some ρd =>
     rw [hb] at hz
     dsimp only at hz
     refine HI ((htg (D + 1) s2 H2 fp).h _ s7 σ5 H7 xv u d (dv ns.length cs ρ) ρd I7p r7 rd (E5.mono e57) hb) (fun _ s8 ⟨σ8,H8,I8,e78,E8⟩=>?_) fun _ _ z=>Ht z
     have e58:=e57.trans e78
     have back:∀ {σ9:L2.St} {H9:Hp},Envs X.K H9 σ9 ρd→Envs X.K H9 σ9 (dv ns.length cs ρ):=fun {σ9 H9} E9=>by
      have q:=Envs.fgt js E9
      rw [hback ρ d ρd hb] at q
      exact q
     have took:∀ {H9:Hp} {s9:c_},Inv (aj X (ns ++ cs.map (·.1)) scope (D + 1) s2 H2 fp) (bL [D] s5.heap ++ bL fp s7.heap) σ8 H9 s9→Same H8 H9 →
      (match (match fe ρd with | some (.ok y)=>(match fL b tst fe (dv ns.length cs ρ) (ds.drop (i + 1)) with | some ys=>some (y :: ys) | none=>none) | _=>none) with | some zs=>es ++ zs=ys | none=>False) →
      k_ (p_ X.prog X.w) X.A (eval elt (Ow scope (HK (D + 1 + 1) scope.names (gd scope.names X.env [])) (D + 1) X.env)) (fun xw s₄ =>
       k_ (p_ X.prog X.w) X.A (call (.builtin "list.append") [.ref D,xw]) (fun _ s₅=>∃ k,k < ds.length - i∧BL X ns cs scope D s2 H2 fp tn ds ys b tst fe ρ k s₅) (Nc (p_ X.prog X.w) X.A (Ow scope (HK (D + 1 + 1) scope.names (gd scope.names X.env [])) (D + 1) X.env) fun e s'=>RR (.ref D) (D + 1) (.error e) s') s₄) (Nc (p_ X.prog X.w) X.A (Ow scope (HK (D + 1 + 1) scope.names (gd scope.names X.env [])) (D + 1) X.env) fun e s'=>RR (.ref D) (D + 1) (.error e) s') s9:=fun {H9 s9} I9 e9 hz9=>by
      match hfe:fe ρd,hz9 with
      | none,hz9=>exact hz9.elim
      | some (.exc c),hz9=>exact hz9.elim
      | some (.ok y),hz9 =>
       refine HI ((helt (D + 1) s2 H2 fp).h _ s9 σ8 H9 (fun v H10=>Same H9 H10∧Rep X.K H10 y v) I9 ⟨ρd,E8.mono e9,by rw [hfe]; exact fun v H10 e10 r10=>⟨e10,r10⟩⟩) (fun w s10 ⟨yv,H10,I10,rw10,e10,r10⟩=>?_) fun _ _ z=>Ht z
       obtain ⟨t10,fr10,D10,l10⟩:=fin I10
       refine oQ l10 (by omega) fun h11 l11 k11=>?_
       have I10':Inv (aj X (ns ++ cs.map (·.1)) scope (D + 1) s2 H2 fp) (bL fp s7.heap) σ8 H10 s10:=I10.pins_of fun p hp=>I10.pin p (r_ _ (r_ _ hp))
       have I11:Inv (aj X (ns ++ cs.map (·.1)) scope (D + 1) s2 H2 fp) (bL fp s7.heap) σ8 H10 { s10 with heap:=h11 }:=I10'.turned (t':=s10.toks) k11 D10 DL (.inr (Lz hD)) Dcell fun p hp z=>by
        have hp':p∈bL fp s7.heap:=by simpa [aj] using hp
        exact fpD p.1 (gM hp').1 z
       have e80:=e9.trans e10
       refine ⟨ds.length - (i + 1),by omega,i + 1,σ8,H10,es ++ [y],vs ++ [yv],its ++ [w],rfl,hlt,I11.pins_of fun p hp=>absurd hp (by simp),back (E8.mono e80),T.keep _ _ _ t10 fun b hb o e=>k11 b o (fpD b hb) e,fr10,D10,l11,v5.append (.cons rw10 .nil),(Reps.mono (e58.trans e80) _ _ r5).append ⟨yv,[],rfl,r10,rfl⟩,by rw [II,Nx]; omega,e5.trans (e58.trans e80),?_⟩
       match hm2:fL b tst fe (dv ns.length cs ρ) (ds.drop (i + 1)),hz9 with
       | none,hz9=>exact hz9.elim
       | some zs,hz9=>dsimp only at hz9 ⊢; rw [KG]; exact hz9
     have hif:=hifs (D + 1) s2 H2 fp
     cases tst with
     | none =>
      cases (show ifs=[] from hif)
      exact wpAny_tests_nil (by rw [if_pos rfl]; exact took I8 (.refl H8) hz)
     | some t =>
      obtain ⟨c,rfl,hct⟩:=hif
      match htt:t ρd,hz with
      | none,hz=>simp only [htt] at hz
      | some (.exc c),hz=>simp only [htt] at hz
      | some (.ok true),hz =>
       simp only [htt] at hz
       refine wpAny_tests_one (HI (hct.h _ s8 σ8 H8 (fun b H9=>b=true∧Same H8 H9) I8 ⟨_,E8,by rw [htt]; exact fun H9 e9=>⟨rfl,e9⟩⟩) (fun b s9 ⟨H9,I9,hb,e9⟩=>?_) fun _ _ z=>Ht z)
       subst hb
       rw [if_pos rfl]
       exact took I9 e9 hz
      | some (.ok false),hz =>
       simp only [htt] at hz
       refine wpAny_tests_one (HI (hct.h _ s8 σ8 H8 (fun b H9=>b=false∧Same H8 H9) I8 ⟨_,E8,by rw [htt]; exact fun H9 e9=>⟨rfl,e9⟩⟩) (fun b s9 ⟨H9,I9,hb,e9⟩=>?_) fun _ _ z=>Ht z)
       subst hb
       rw [if_neg pi]
       obtain ⟨t9,fr9,D9,l9⟩:=fin I9
       exact ⟨ds.length - (i + 1),by omega,i + 1,σ8,H9,es,vs,its,rfl,hlt,I9.pins_of fun p hp=>absurd hp (by simp),back (E8.mono e9),t9,fr9,D9,l9,v5,Reps.mono (e58.trans e9) _ _ r5,by omega,e5.trans (e58.trans e9),hz⟩
  · have hi':i=ds.length:=by omega
    subst hi'
    rw [LN] at hz
    have hz':es ++ []=ys:=hz
    rw [JF] at hz'
    subst hz'
    refine thn (T.done (aj X (ns ++ cs.map (·.1)) scope (D + 1) s2 H2 fp) rfl rfl rfl hc ds.length (bL [D] s5.heap) s5 σ5 H5 _ I5p fp5' t5 (wk.stop H5 e5)) fun r s6 ⟨hr,I6⟩=>?_
    subst hr
    have l6:LAt s6.heap D its:=by
     obtain ⟨n,q⟩:=l5
     exact ⟨n,(I6.pin (D,_) (r_ _ (bA (by simp) q))).1⟩
    obtain ⟨m6,n6,_⟩:=I6.loc
    have C6:H5 (D + 1)=none:=I6.free
    have new:ObjOk X.prog X.w (upd H5 D (.lst vs)) s6.heap D (.lst vs):=by
     obtain ⟨n,q⟩:=l6
     exact ⟨by rw [lenR]; exact ba hyl,its,n,v5,q⟩
    have u6:Un (L2.frs X.stack) fp H2 H5 s2.heap s6.heap:=I6.base
    have nD:∀ b o,s2.heap.get? b=some o→b≠D:=fun b o e=>by
     have hb:b < D:=by rw [← hD]; exact o_ e
     exact wW hb
    have u7:Un (L2.frs X.stack) fp H2 (upd H5 D (.lst vs)) s2.heap s6.heap:=⟨u6.keep,u6.slot,fun b o e n hx=>by rw [al (nD b o e)]; exact u6.free b o e n hx,u6.there,fun b xs q=>by
     have q':=u6.tups b xs q
     rw [al (am q' D5)]; exact q',fun b o u q=>by
     have q':=u6.frzs b o u q
     rw [al (am q' D5)]; exact q',fun b ps q=>by
     obtain ⟨more,q'⟩:=u6.tbls b ps q
     exact ⟨more,by rw [al (am q' D5)]; exact q'⟩⟩
    have I7:Inv X pins σ (upd H5 D (.lst vs)) s6:=I2.call' (s':=s6) (ch:=fp) I6.os u7 (HOk.add I6.hok D5 C6 (fun b u _ q=>q) new) I6.bare fun b hb=>⟨(f2 b hb).2.2.2.1,(f2 b hb).2.1,(f2 b hb).2.2.2.2.1,(f2 b hb).2.2.2.2.2⟩
    exact hRR D (D + 1) s6 H5 vs m6 I7 D5 e5 r5 n6 C6 (IG F8) (by rw [hD]; exact KQ D)
 exact codeAny_compStart_list (loop _ rfl) (T.self _ 0 _ _ _ (T.keep _ _ _ st2 fun b hb o e=>old b o e) (loop _ rfl))
theorem gI {X:Cx} {tg elt iter:Expr} {ifs:List Expr} {scope:Scope} {pos:Pos} {src:FnA} {tst:Option FnB} {fe:FnE} {b:Dv→Ev→Option Ev} (osc:Scope) (N ns:List Str) (js:List Nat) (cs:List (Str×Nat)) (hosc:X.env.scope=osc) (hN:X.N=N) (ok:ic osc scope cs N) (hcl:KN scope X.env=pure (gd scope.names X.env [])) (hc:X.calm=true)
 (hback:∀ ρ d ρ',b d (dv ns.length cs ρ)=some ρ'→fgt js ρ'=dv ns.length cs ρ)
 (hi:FIG X tg iter src) (htg:∀ C s H fp,FG (aj X (ns ++ cs.map (·.1)) scope C s H fp) tg b) (helt:∀ C s H fp,FE (aj X (ns ++ cs.map (·.1)) scope C s H fp) elt fe) (hifs:∀ C s H fp,pI (aj X (ns ++ cs.map (·.1)) scope C s H fp) ifs tst)
 (hs:∀ x,Hr iter X.env x=pure x:=by intro _; kernel_rfl):FE X (.ListComp elt [⟨tg,iter,ifs,0⟩] scope pos) (aG ns.length cs src b tst fe):=by
 subst hosc hN
 constructor
 intro pins s σ H Q I h
 obtain ⟨ρ,E,o⟩:=h
 match ho:aG ns.length cs src b tst fe ρ with
 | none=>rw [ho] at o; exact o.elim
 | some r =>
  rw [ho] at o
  rw [eval_ListComp]
  have key:OutG X H (src ρ) fun J H'=>∃ ds ys,Same H H'∧WkG X.K J ds H'∧ds.length≤100000∧ys.length≤100000∧fL b tst fe (dv ns.length cs ρ) ds=some ys∧(∀ v H'',Same H' H''→Rep X.K H'' (.lst ys) v→Q v H''):=by
   rcases Ew ho with ⟨c,e1,e2⟩ | ⟨ds,ys,e1,e2,l1,l2,e3⟩
   · subst e2; rw [e1]; exact o
   · subst e3; rw [e1]; exact fun J H' e wk=>⟨ds,ys,e,wk,l1,l2,e2,fun v H'' e2 r=>o v H'' (e.trans e2) r⟩
  refine MN (use:=none) rfl hs hcl ok.kind ok.names (thn (hi.h pins s σ H _ I ⟨ρ,E,key⟩) fun v s1 h1=>thn h1 fun itv s2 h2=>?_)
  obtain ⟨it,fp,tn,J,H2,e,I2,T,st2,f2,ds,ys,e12,wk,hdl,hyl,hm,hQ⟩:=h2
  subst e
  refine i4 cs ok hc htg helt hifs hback (E.mono e12) I2 T st2 f2 wk hdl hyl hm (RR:=fun acc C=>compPost (p_ X.prog X.w) X.A X.xe none (EP X pins σ Q) acc C) fun D C s6 H5 vs m6 I6 D5 e5 r5 n6 C6 CD hC=>?_
  refine ⟨m6,n6,fun h7 sb7=>?_⟩
  have Cn:(upd H5 D (.lst vs)) C=none:=by rw [al CD]; exact C6
  obtain ⟨q0,q1,q2,q3,q4,q5⟩:=I2.fpOk hC Cn
  have I7:Inv X pins σ (upd H5 D (.lst vs)) { s6 with heap:=h7 }:=I6.turned (t':=s6.toks) (fun b o hb e=>sb7.extBut b o hb e) q0 q1 q3 q4 q5
  exact ⟨.ref D,_,I7,rfl,hQ _ _ (e5.trans (aq D5 _)) ⟨D,vs,rfl,ak,Reps.mono (aq D5 _) _ _ r5⟩⟩
theorem nX {X:Cx} {tg elt iter:Expr} {ifs:List Expr} {scope:Scope} {pos:Pos} {src:FnA} {tst:Option FnB} {fe:FnE} {b:Dv→Ev→Option Ev} {y:Str} {py spos:Pos} (i:Nat) (hnd:X.N.Nodup) (hiy:X.N[i]?=some y) (hxy:Loc X.env.scope y) (hfy:X.fn y=true∨X.env.scope.names.lookup y=some .local)
 (osc:Scope) (N ns:List Str) (js:List Nat) (cs:List (Str×Nat)) (hosc:X.env.scope=osc) (hN:X.N=N) (ok:ic osc scope cs N) (hcl:KN scope X.env=pure (gd scope.names X.env [])) (hc:X.calm=true)
 (hback:∀ ρ d ρ',b d (dv ns.length cs ρ)=some ρ'→fgt js ρ'=dv ns.length cs ρ)
 (hi:FIG X tg iter src) (htg:∀ C s H fp,FG (aj X (ns ++ cs.map (·.1)) scope C s H fp) tg b) (helt:∀ C s H fp,FE (aj X (ns ++ cs.map (·.1)) scope C s H fp) elt fe) (hifs:∀ C s H fp,pI (aj X (ns ++ cs.map (·.1)) scope C s H fp) ifs tst)
 (hsw:HR (.ListComp elt [⟨tg,iter,ifs,0⟩] scope pos) (some (.Name y py)) spos.line X.env=pure true:=by kernel_rfl)
 (hs:∀ x,Hr iter X.env x=pure x:=by intro _; kernel_rfl):PS X (.Assign [.Name y py] (.ListComp elt [⟨tg,iter,ifs,0⟩] scope pos) spos) (tC X i (aG ns.length cs src b tst fe)):=by
 subst hosc hN
 intro pins s σ H D0 I h
 obtain ⟨ρ,E,o⟩:=h
 match ho:aG ns.length cs src b tst fe ρ with
 | none=>rw [ho] at o; exact o.elim
 | some r =>
  rw [ho] at o
  have key:OutG X H (src ρ) fun J H'=>∃ ds ys,Same H H'∧WkG X.K J ds H'∧ds.length≤100000∧ys.length≤100000∧fL b tst fe (dv ns.length cs ρ) ds=some ys∧(∀ H5 p vs,Same H' H5→H5 p=none→Reps X.K H5 ys vs→D0.nx (σ.set i (some (.ref p))) (upd H5 p (.lst vs))):=by
   rcases Ew ho with ⟨c,e1,e2⟩ | ⟨ds,ys,e1,e2,l1,l2,e3⟩
   · subst e2; rw [e1]; exact o
   · subst e3; rw [e1]; obtain ⟨ys',ey,o⟩:=o; cases ey; exact fun J H' e wk=>⟨ds,ys,e,wk,l1,l2,e2,fun H5 p vs e3 hp r=>o H5 p vs (e.trans e3) hp r⟩
  rw [exec_Assign_Name_used _ _ _ _ hsw]
  refine b_ (wpAny_standAt (b_ ?_))
  show k_ _ X.A (do let _ ← comprehension (.ListComp elt [⟨tg,iter,ifs,0⟩] scope pos) scope X.env _ (newList []) false (eval iter X.env) (some (Ml (.Name y py) X.env))) _ _ s
  refine b_ (HI (MN (use:=some (Ml (.Name y py) X.env)) (Q:=fun _ s'=>SP X pins D0 .next s') rfl hs hcl ok.kind ok.names
   (thn (hi.h pins s σ H _ I ⟨ρ,E,key⟩) fun v s1 h1=>thn h1 fun itv s2 h2=>?_)) (fun _ s' hq=>d_ (d_ hq)) fun _ _ e=>e)
  obtain ⟨it,fp,tn,J,H2,e,I2,T,st2,f2,ds,ys,e12,wk,hdl,hyl,hm,hQ⟩:=h2
  subst e
  refine i4 cs ok hc htg helt hifs hback (E.mono e12) I2 T st2 f2 wk hdl hyl hm (RR:=fun acc C=>compPost (p_ X.prog X.w) X.A X.xe (some (Ml (.Name y py) X.env)) (fun _ s'=>SP X pins D0 .next s') acc C) fun D C s6 H5 vs m6 I6 D5 e5 r5 n6 C6 CD hC=>?_
  have Cn:(upd H5 D (.lst vs)) C=none:=by rw [al CD]; exact C6
  have FC:=I2.fpOk hC Cn
  obtain ⟨oC,es,ep,hoC,hdC,rC⟩:=id n6
  have I6p:=I6.pinned (fp:=[C]) (fun b hb=>by
   have e:b=C:=by simpa using hb
   subst e; exact FC) (fun b hb=>by
   have e:b=C:=by simpa using hb
   subst e
   exact ⟨oC,hoC,fun v z=>by rw [hdC] at z; cases z⟩)
  refine thn (dw hnd hiy hxy hfy _ s6 σ _ (.ref D) (.ref D) (fun σ' H'=>σ'=σ.set i (some (.ref D))∧H'=upd H5 D (.lst vs)) I6p rfl ⟨rfl,rfl⟩) fun _ s8 ⟨σ8,H8,I8,e1,e2⟩=>?_
  subst e1 e2
  have hC8:=(I8.pin (C,oC) (r_ _ (r_ _ (bA (by simp) hoC)))).1
  refine ⟨m6,⟨oC,es,ep,hC8,hdC,rC⟩,fun h9 sb9=>?_⟩
  have I8':Inv X pins (σ.set i (some (.ref D))) (upd H5 D (.lst vs)) s8:=I8.unpinned
  obtain ⟨q0,q1,q2,q3,q4,q5⟩:=FC
  have I9:Inv X pins (σ.set i (some (.ref D))) (upd H5 D (.lst vs)) { s8 with heap:=h9 }:=I8'.turned (t':=s8.toks) (fun b o hb e=>sb9.extBut b o hb e) q0 q1 q3 q4 q5
  exact ⟨_,_,I9,hQ H5 D vs e5 D5 r5⟩
abbrev bQ:=List (Str×Nat×List Str×(List Dv→Option (Rs Dv)))
theorem fF {β:Type} {x y:Str} {e e':β} {T:List (Str×β)} (h:((y,e) :: T).lookup x=some e'):(x=y∧e'=e)∨T.lookup x=some e':=by
 rw [HL] at h
 split at h
 · rename_i hb
   exact .inl ⟨NX hb,by cases h; rfl⟩
 · exact .inr h
section
variable {P:Program} {w:D_} {K:ck} {mg:Str→Option Value} {base:Heap} {T:bQ} {y:Str} {k:Nat} {ps:List Str} {F:List Dv→Option (Rs Dv)}
structure HA (P:Program) (w:D_) (K:ck) (mg:Str→Option Value) (base:Heap) (T:bQ):Prop where
 h:∀ x e,T.lookup x=some e→Has P w K mg base x e.1 e.2.1 e.2.2
structure HAE (P:Program) (w:D_) (K:ck) (mg:Str→Option Value) (base:Heap) (T:bQ):Prop where
 h:∀ x e,T.lookup x=some e→Dr P w K mg base x e.1 e.2.1 e.2.2
structure HAM (P:Program) (w:D_) (K:ck) (mg:Str→Option Value) (base:Heap) (T:bQ):Prop where
 h:∀ x e,T.lookup x=some e→Ds P w K mg base x e.1 e.2.1 e.2.2
theorem BM:HA P w K mg base []:=⟨fun _ _ h=>by cases h⟩
theorem yb:HAE P w K mg base []:=⟨fun _ _ h=>by cases h⟩
theorem yc:HAM P w K mg base []:=⟨fun _ _ h=>by cases h⟩
theorem aw (h:Has P w K mg base y k ps F) (t:HA P w K mg base T):HA P w K mg base ((y,k,ps,F) :: T):=⟨fun x e q=>by
 rcases fF q with ⟨rfl,rfl⟩ | q
 · exact h
 · exact t.h x e q⟩
theorem fG (h:Dr P w K mg base y k ps F) (t:HAE P w K mg base T):HAE P w K mg base ((y,k,ps,F) :: T):=⟨fun x e q=>by
 rcases fF q with ⟨rfl,rfl⟩ | q
 · exact h
 · exact t.h x e q⟩
theorem u9 (h:Ds P w K mg base y k ps F) (t:HAM P w K mg base T):HAM P w K mg base ((y,k,ps,F) :: T):=⟨fun x e q=>by
 rcases fF q with ⟨rfl,rfl⟩ | q
 · exact h
 · exact t.h x e q⟩
abbrev BN:=List (Str×Option Dv)
def cN (s:String):Str×Option Dv:=(a_ s,none)
def cI (s:String) (i:Int):Str×Option Dv:=(a_ s,some (.int i))
def cS (s z:String):Str×Option Dv:=(a_ s,some (.str (a_ z)))
def GP (mg:Str→Option Value) (x:Str):Option Dv→Prop
 | none=>mg x=none
 | some (.int i)=>∃ t,mg x=some (.int i t)
 | some (.str z)=>∃ t,mg x=some (.str z t)
 | _=>False
structure MA (mg:Str→Option Value) (C:BN):Prop where
 h:∀ x o,C.lookup x=some o→GP mg x o
theorem MA.no {C:BN} {x:Str} (h:MA mg C) (e:C.lookup x=some none):mg x=none:=h.h x none e
def EZ (K:ck) (q:Str×Option Dv):Bool:=match q.2,Jp K C_ q.1 with
 | none,some none=>true
 | some (.int i),some (some (.int j _))=>i == j
 | some (.str z),some (some (.str y _))=>z == y
 | _,_=>false
theorem BO {h:Heap} (X:K.In h) (G:h.Ns C_ mg):∀ (C:BN),C.all (EZ K)=true→MA mg C
 | [],_=>⟨fun x o q=>by cases q⟩
 | (y,o) :: C,e=>⟨fun x o' q=>by
  rw [Im,j_] at e
  rcases fF q with ⟨rfl,rfl⟩ | q
  · have h1:=e.1
    unfold EZ at h1
    dsimp only at h1
    split at h1
    · rename_i e1
      exact PySem.W.mg_none_of X G e1
    · rename_i i j t e1
      have hij:i=j:=NX h1
      subst hij
      exact ⟨t,K3 X G e1⟩
    · rename_i z y t e1
      have hij:z=y:=NX h1
      subst hij
      exact ⟨t,K3 X G e1⟩
    · cases h1
  · exact (BO X G C e.2).h x o' q⟩
end
section
variable {X:Cx} {T:bQ} {C:BN} {k' n:Nat} {x:Str} {p pos:Pos} {e:Expr} {es:List Expr} {F:List Dv→Option (Rs Dv)} {g:FnA}
theorem vb (hT:HA X.prog X.w X.K X.mg X.base T) (hr:Room k' X.A) (hF:(T.lookup x).map (fun q=>q.2.2)=some F) (ha:FA X (e :: es) g) (hk:((T.lookup x).all fun q=>PQ q.1 k' && Ko n q.2.1.length)=true:=by kernel_rfl) (hg:X.env.kindOf x=some .globalImplicit:=by kernel_rfl) (hdb:(x == ("__debug__":Str))=false:=by kernel_rfl)
 (he:f_ (e :: es) X.env=(false,eval e X.env) :: f_ es X.env:=by kernel_rfl) (hpl:(Ho pos (f_ es X.env)).any (·.1)=false:=by kernel_rfl) :
 FE X (.Call (.Name x p) (e :: es) [] pos) (ai F n g):=by
 cases hq:T.lookup x with
 | none=>rw [hq] at hF; cases hF
 | some q =>
  rw [hq] at hF hk
  cases hF
  rw [L7,j_] at hk
  exact ud q.1 q.2.1 q.2.2 (hT.h x q hq) hr (Kz hk.1) hg ha (Jx hk.2) hdb he hpl
theorem rW (hT:HAE X.prog X.w X.K X.mg X.base T) (hr:Room k' X.A) (hF:(T.lookup x).map (fun q=>q.2.2)=some F) (hex:X.ex=[]) (ha:FA X (e :: es) g) (hk:((T.lookup x).all fun q=>PQ q.1 k' && Ko n q.2.1.length)=true:=by kernel_rfl) (hg:X.env.kindOf x=some .globalImplicit:=by kernel_rfl) (hdb:(x == ("__debug__":Str))=false:=by kernel_rfl)
 (he:f_ (e :: es) X.env=(false,eval e X.env) :: f_ es X.env:=by kernel_rfl) (hpl:(Ho pos (f_ es X.env)).any (·.1)=false:=by kernel_rfl) :
 FE X (.Call (.Name x p) (e :: es) [] pos) (aZ F n g):=by
 cases hq:T.lookup x with
 | none=>rw [hq] at hF; cases hF
 | some q =>
  rw [hq] at hF hk
  cases hF
  rw [L7,j_] at hk
  exact uw q.1 q.2.1 q.2.2 (hT.h x q hq) hr (Kz hk.1) hex hg ha (Jx hk.2) hdb he hpl
theorem rX (hT:HAM X.prog X.w X.K X.mg X.base T) (hr:RoomM k' X.A) (hF:(T.lookup x).map (fun q=>q.2.2)=some F) (ha:FA X (e :: es) g) (hk:((T.lookup x).all fun q=>PQ q.1 k' && Ko n q.2.1.length)=true:=by kernel_rfl) (hg:X.env.kindOf x=some .globalImplicit:=by kernel_rfl) (hdb:(x == ("__debug__":Str))=false:=by kernel_rfl)
 (he:f_ (e :: es) X.env=(false,eval e X.env) :: f_ es X.env:=by kernel_rfl) (hpl:(Ho pos (f_ es X.env)).any (·.1)=false:=by kernel_rfl) :
 FE X (.Call (.Name x p) (e :: es) [] pos) (ai F n g):=by
 cases hq:T.lookup x with
 | none=>rw [hq] at hF; cases hF
 | some q =>
  rw [hq] at hF hk
  cases hF
  rw [L7,j_] at hk
  exact uB q.1 q.2.1 q.2.2 (hT.h x q hq) hr (Kz hk.1) hg ha (Jx hk.2) hdb he hpl
theorem rY {p2 kp:Pos} (hT:HA X.prog X.w X.K X.mg X.base T) (hM:MA X.mg C) (hr:Room k' X.A) (hF:(T.lookup x).map (fun q=>q.2.2)=some F) (ha:FA X [e] g) (hk:((T.lookup x).all fun q=>PQ (q.1 + 2) k' && Ko q.2.1.length 1)=true:=by kernel_rfl) (hg:X.env.kindOf (a_ "sorted")=some .globalImplicit:=by kernel_rfl) (hm:C.lookup (a_ "sorted")=some none:=by kernel_rfl) (hgx:X.env.kindOf x=some .globalImplicit:=by kernel_rfl)
 (hdb:(x == ("__debug__":Str))=false:=by kernel_rfl)
 (he:Ho pos (f_ [e] X.env)=(false,eval e X.env) :: Ho pos (f_ [] X.env):=by kernel_rfl)
 (hplain:(Ho pos (f_ [e] X.env)).any (·.1)=false:=by kernel_rfl)
 (hall:(Jn pos (Io [⟨some "key",.Name x p2,kp⟩] X.env)).all (·.1.isSome)=true:=by kernel_rfl)
 (hkw:(Jn pos (Io [⟨some "key",.Name x p2,kp⟩] X.env)).any (·.1.isNone)=false:=by kernel_rfl)
 (hnm:(Jn pos (Io [⟨some "key",.Name x p2,kp⟩] X.env)).filterMap (·.1)=[a_ "key"]:=by kernel_rfl) :
 FE X (.Call (.Name "sorted" p) [e] [⟨some "key",.Name x p2,kp⟩] pos) (fB1 (ph F) g):=by
 cases hq:T.lookup x with
 | none=>rw [hq] at hF; cases hF
 | some q =>
  rw [hq] at hF hk
  cases hF
  rw [L7,j_] at hk
  exact u8 q.1 q.2.1 q.2.2 (hT.h x q hq) hr (Kz hk.1) (Jx hk.2) hg (hM.no hm) hgx ha hdb he hplain hall hkw hnm
theorem E6 {i:Int} (hM:MA X.mg C) (hl:C.lookup x=some (some (.int i))) (hg:X.env.kindOf x=some .globalImplicit:=by kernel_rfl) (hd:(x == ("__debug__":Str))=false:=by kernel_rfl):FE X (.Name x pos) (fC (.int i)) :=
 let ⟨_,h⟩:=hM.h x _ hl
 wP hg h hd
theorem E7 {z:Str} (hM:MA X.mg C) (hl:C.lookup x=some (some (.str z))) (hg:X.env.kindOf x=some .globalImplicit:=by kernel_rfl) (hd:(x == ("__debug__":Str))=false:=by kernel_rfl):FE X (.Name x pos) (fC (.str z)) :=
 let ⟨_,h⟩:=hM.h x _ hl
 wQ hg h hd
def ndB:List Str→Bool
 | []=>true
 | x :: r=>!(r.contains x) && ndB r
theorem cW:∀ {l:List Str},ndB l=true→l.Nodup
 | [],_=>List.nodup_nil
 | x :: r,h=>by
  unfold ndB at h
  rw [j_] at h
  refine Kt.2 ⟨fun hx=>?_,cW h.2⟩
  have h1:=h.1
  rw [List.contains_iff_mem.2 hx] at h1
  cases h1
def dZ (sc:Scope) (x:Str):Bool:=match sc.names.lookup x with
 | some .local=>true
 | some .cell=>true
 | _=>false
theorem cq {sc:Scope} {x:Str} (h:dZ sc x=true):Loc sc x:=by
 unfold dZ at h
 split at h
 · exact .inl ‹_›
 · exact .inr ‹_›
 · cases h
def vd (osc scope:Scope) (cs:List (Str×Nat)) (N:List Str):Bool :=
 decide (scope.kind=.function) && decide (∀ y∈scope.names,y.2=.cell→scope.names.lookup y.1=some .cell) && decide (∀ y∈scope.names,y.2=.local→scope.names.lookup y.1=some .local) && decide (∀ y∈scope.names,y.2=.free→osc.names.lookup y.1=some .cell∨osc.names.lookup y.1=some .free) && decide (∀ c∈cs,N[c.2]?=some c.1∧scope.names.lookup c.1=some .free)
theorem i5 {osc scope:Scope} {cs:List (Str×Nat)} {N:List Str} (h:vd osc scope cs N=true):ic osc scope cs N:=by
 unfold vd at h
 simp only [j_,decide_eq_true_eq] at h
 exact ⟨h.1.1.1.1,h.1.1.1.2,h.1.1.2,h.1.2,h.2⟩
theorem lkc {env:Env}:∀ {names:List (Str×Kb)} {x:Str},names.lookup x=some .cell →
 (names.map fun (n,k)=>if (k == IW && env.scope.kind == .function && env.kindOf n == some .cell) then (n,Ji) else (n,k)).lookup x=some .cell
 | [],_,h=>by simp at h
 | (n,k) :: r,x,h=>by
  rw [HL] at h
  rw [y_]
  cases hx:x == n with
  | true =>
   rw [hx] at h
   cases h
   simp [HL,hx]
  | false =>
   rw [hx] at h
   have ih:=lkc (env:=env) h
   dsimp only
   split
   · rw [HL,hx]; exact ih
   · rw [HL,hx]; exact ih
theorem fgL {X:Cx} {N:List Str} {scope:Scope} {C:Addr} {s:c_} {H:Hp} {fp:List Addr} {x:Str} (h:dZ scope x=true):Loc (aj X N scope C s H fp).env.scope x∧((aj X N scope C s H fp).fn x=true∨(aj X N scope C s H fp).env.scope.names.lookup x=some .local):=by
 rcases cq h with h | h
 · exact ⟨.inl (NC h),.inr (NC h)⟩
 · exact ⟨.inr (lkc h),.inl (by show (scope.names.lookup x == some .cell)=true; rw [h]; rfl)⟩
end
section
variable {X:Cx} {elt iter:Expr} {ifs:List Expr} {scope:Scope} {pos px py pt spos:Pos} {src:FnA} {tst:Option FnB} {fe:FnE} {cs:List (Str×Nat)} {x y z:Str} {i:Nat} {k:Nat}
theorem fgA {N:List Str} (C:Addr) (s:c_) (H:Hp) (fp:List Addr) (hnd:ndB N=true) (hx:N[0]?=some x) (hl:dZ scope x=true):FG (aj X N scope C s H fp) (.Name x px) (gN 0) :=
 xq 0 (cW hnd) hx (fgL hl).1 (fgL hl).2
theorem Fa (hi:FIG X (.Name x px) iter src) (helt:∀ C s H fp,FE (aj X (x :: cs.map (·.1)) scope C s H fp) elt fe) (hifs:∀ C s H fp,pI (aj X (x :: cs.map (·.1)) scope C s H fp) ifs tst)
 (hok:vd X.env.scope scope cs X.N=true:=by kernel_rfl) (hcl:KN scope X.env=pure (gd scope.names X.env []):=by kernel_rfl) (hc:X.calm=true:=by kernel_rfl) (hnd:ndB (x :: cs.map (·.1))=true:=by kernel_rfl) (hl:dZ scope x=true:=by kernel_rfl)
 (hs:∀ x,Hr iter X.env x=pure x:=by intro _; kernel_rfl):FE X (.ListComp elt [⟨.Name x px,iter,ifs,0⟩] scope pos) (bh cs src tst fe) :=
 (xX (cs:=cs) (src:=src) (tst:=tst) (fe:=fe)) ▸ gI X.env.scope X.N [x] [0] cs rfl rfl (i5 hok) hcl hc (xt _) hi (fun C s H fp=>fgA C s H fp hnd rfl hl) helt hifs hs
theorem Fb (hi:FIG X (.Name x px) iter src) (helt:∀ C s H fp,FE (aj X (x :: cs.map (·.1)) scope C s H fp) elt fe) (hifs:∀ C s H fp,pI (aj X (x :: cs.map (·.1)) scope C s H fp) ifs tst)
 (hok:vd X.env.scope scope cs X.N=true:=by kernel_rfl) (hcl:KN scope X.env=pure (gd scope.names X.env []):=by kernel_rfl) (hc:X.calm=true:=by kernel_rfl) (hnd:ndB (x :: cs.map (·.1))=true:=by kernel_rfl) (hl:dZ scope x=true:=by kernel_rfl)
 (hs:∀ x,Hr iter X.env x=pure x:=by intro _; kernel_rfl):FE X (.ListComp elt [⟨.Name x px,iter,ifs,0⟩] scope pos) (aG 1 cs src (gN 0) tst fe) :=
 gI X.env.scope X.N [x] [0] cs rfl rfl (i5 hok) hcl hc (xt _) hi (fun C s H fp=>fgA C s H fp hnd rfl hl) helt hifs hs
theorem Fc (hi:FIG X (.Name x px) iter src) (helt:∀ C s H fp,FE (aj X (x :: cs.map (·.1)) scope C s H fp) elt fe) (hifs:∀ C s H fp,pI (aj X (x :: cs.map (·.1)) scope C s H fp) ifs tst)
 (hN:ndB X.N=true) (hiy:X.N[i]?=some y) (hxy:dZ X.env.scope y=true) (hfy:X.fn y=true)
 (hok:vd X.env.scope scope cs X.N=true) (hcl:KN scope X.env=pure (gd scope.names X.env [])) (hc:X.calm=true) (hnd:ndB (x :: cs.map (·.1))=true) (hl:dZ scope x=true)
 (hsw:HR (.ListComp elt [⟨.Name x px,iter,ifs,0⟩] scope pos) (some (.Name y py)) spos.line X.env=pure true)
 (hs:∀ x,Hr iter X.env x=pure x):PS X (.Assign [.Name y py] (.ListComp elt [⟨.Name x px,iter,ifs,0⟩] scope pos) spos) (tC X i (aG 1 cs src (gN 0) tst fe)) :=
 nX i (cW hN) hiy (cq hxy) (.inl hfy) X.env.scope X.N [x] [0] cs rfl rfl (i5 hok) hcl hc (xt _) hi (fun C s H fp=>fgA C s H fp hnd rfl hl) helt hifs hsw hs
theorem Fd (hi:FIG X (.Name x px) iter src) (helt:∀ C s H fp,FE (aj X (x :: cs.map (·.1)) scope C s H fp) elt fe) (hifs:∀ C s H fp,pI (aj X (x :: cs.map (·.1)) scope C s H fp) ifs tst)
 (hsw:HR (.ListComp elt [⟨.Name x px,iter,ifs,0⟩] scope pos) (some (.Name y py)) spos.line X.env=pure true)
 (hN:ndB X.N=true:=by kernel_rfl) (hiy:X.N[i]?=some y:=by kernel_rfl) (hxy:dZ X.env.scope y=true:=by kernel_rfl) (hfy:X.fn y=true:=by kernel_rfl)
 (hok:vd X.env.scope scope cs X.N=true:=by kernel_rfl) (hcl:KN scope X.env=pure (gd scope.names X.env []):=by kernel_rfl) (hc:X.calm=true:=by kernel_rfl) (hnd:ndB (x :: cs.map (·.1))=true:=by kernel_rfl) (hl:dZ scope x=true:=by kernel_rfl)
 (hs:∀ x,Hr iter X.env x=pure x:=by intro _; kernel_rfl):FS X (.Assign [.Name y py] (.ListComp elt [⟨.Name x px,iter,ifs,0⟩] scope pos) spos) (bn i (aG 1 cs src (gN 0) tst fe)) :=
 rh (Fc hi helt hifs hN hiy hxy hfy hok hcl hc hnd hl hsw hs) kG
theorem Gm {N:List Str} (C:Addr) (s:c_) (H:Hp) (fp:List Addr) (hc:X.calm=true) (hnd:ndB N=true) (hx:N[0]?=some x) (hz:N[1]?=some z) (hl:dZ scope x=true) (hl2:dZ scope z=true)
 (a1:(Ie [.Name x px,.Name z py] (aj X N scope C s H fp).env).map (·.2)=Ml (.Name x px) (aj X N scope C s H fp).env :: (Ie [.Name z py] (aj X N scope C s H fp).env).map (·.2)) (a2:(Ie [.Name z py] (aj X N scope C s H fp).env).map (·.2)=Ml (.Name z py) (aj X N scope C s H fp).env :: (Ie [] (aj X N scope C s H fp).env).map (·.2))
 (a3:(Ie [.Name x px,.Name z py] (aj X N scope C s H fp).env).length=2) (a4:(Ie [.Name x px,.Name z py] (aj X N scope C s H fp).env).findIdx? (·.1)=none):FG (aj X N scope C s H fp) (.Tuple [.Name x px,.Name z py] k pt) (gP 0 1) :=
 xr 0 1 hc (cW hnd) hx (fgL hl).1 (fgL hl).2 hz (fgL hl2).1 (fgL hl2).2 a1 a2 a3 a4
theorem Fe (hi:FIG X (.Tuple [.Name x px,.Name z py] k pt) iter src) (helt:∀ C s H fp,FE (aj X (x :: z :: cs.map (·.1)) scope C s H fp) elt fe) (hifs:∀ C s H fp,pI (aj X (x :: z :: cs.map (·.1)) scope C s H fp) ifs tst)
 (hok:vd X.env.scope scope cs X.N=true:=by kernel_rfl) (hcl:KN scope X.env=pure (gd scope.names X.env []):=by kernel_rfl) (hc:X.calm=true:=by kernel_rfl) (hnd:ndB (x :: z :: cs.map (·.1))=true:=by kernel_rfl) (hl:dZ scope x=true:=by kernel_rfl) (hl2:dZ scope z=true:=by kernel_rfl)
 (hs:∀ x,Hr iter X.env x=pure x:=by intro _; kernel_rfl):FE X (.ListComp elt [⟨.Tuple [.Name x px,.Name z py] k pt,iter,ifs,0⟩] scope pos) (aG 2 cs src (gP 0 1) tst fe) :=
 gI X.env.scope X.N [x,z] [0,1] cs rfl rfl (i5 hok) hcl hc (AO _) hi (fun C s H fp=>Gm C s H fp hc hnd rfl rfl hl hl2 rfl rfl rfl rfl) helt hifs hs
theorem Ff {p2:Pos} (hi:FIG X (.Tuple [.Name x px,.Name z p2] k pt) iter src) (helt:∀ C s H fp,FE (aj X (x :: z :: cs.map (·.1)) scope C s H fp) elt fe) (hifs:∀ C s H fp,pI (aj X (x :: z :: cs.map (·.1)) scope C s H fp) ifs tst)
 (hsw:HR (.ListComp elt [⟨.Tuple [.Name x px,.Name z p2] k pt,iter,ifs,0⟩] scope pos) (some (.Name y py)) spos.line X.env=pure true)
 (hN:ndB X.N=true:=by kernel_rfl) (hiy:X.N[i]?=some y:=by kernel_rfl) (hxy:dZ X.env.scope y=true:=by kernel_rfl) (hfy:X.fn y=true:=by kernel_rfl)
 (hok:vd X.env.scope scope cs X.N=true:=by kernel_rfl) (hcl:KN scope X.env=pure (gd scope.names X.env []):=by kernel_rfl) (hc:X.calm=true:=by kernel_rfl) (hnd:ndB (x :: z :: cs.map (·.1))=true:=by kernel_rfl) (hl:dZ scope x=true:=by kernel_rfl) (hl2:dZ scope z=true:=by kernel_rfl)
 (hs:∀ x,Hr iter X.env x=pure x:=by intro _; kernel_rfl):FS X (.Assign [.Name y py] (.ListComp elt [⟨.Tuple [.Name x px,.Name z p2] k pt,iter,ifs,0⟩] scope pos) spos) (bn i (aG 2 cs src (gP 0 1) tst fe)) :=
 rh (nX i (cW hN) hiy (cq hxy) (.inl hfy) X.env.scope X.N [x,z] [0,1] cs rfl rfl (i5 hok) hcl hc (AO _) hi (fun C s H fp=>Gm C s H fp hc hnd rfl rfl hl hl2 rfl rfl rfl rfl) helt hifs hsw hs) kG
end
section
variable {X:Cx} {N:List Str} {scope:Scope} {c:Expr} {t:FnB}
theorem ve:∀ C s H fp,pI (aj X N scope C s H fp) [] none:=fun _ _ _ _=>rfl
theorem vf (h:∀ C s H fp,FT (aj X N scope C s H fp) c t):∀ C s H fp,pI (aj X N scope C s H fp) [c] (some t):=fun C s H fp=>⟨_,rfl,h C s H fp⟩
end
section
variable {X:Cx} {a b c e st ix tg iter:Expr} {fa fb fs fi:FnE} {pos p2 pos' py apos cpos pt p1 lp ps:Pos} {i j k kk:Nat} {js:List Nat} {x y:Str} {src g:FnA} {fS:FnS} {fO:iG} {body sts:List Stmt} {es:List Expr} {is:List Nat}
theorem BP (ha:FE X a fa) (hb:FE X b fb) (hs:∀ o i,O_ b false o i=operate [o,i] (Nd o i):=by intro _ _; kernel_rfl):FE X (.Subscript a b pos) (f2 ixD fa fb):=El ha hb hs
theorem yd (he:FE X e fa) (hN:ndB X.N=true:=by kernel_rfl) (hi:X.N[i]?=some x:=by kernel_rfl) (hx:dZ X.env.scope x=true:=by kernel_rfl) (hf:X.fn x=true:=by kernel_rfl) (hs:HR e (some (.Name x pos')) pos.line X.env=pure false:=by kernel_rfl):FS X (.Assign [.Name x pos'] e pos) (bn i fa) :=
 Ak i (cW hN) hi (cq hx) he hs (.inl hf)
theorem ye (he:FE X e fa) (hex:X.ex=[]:=by kernel_rfl) (hij:Ko i j=false:=by kernel_rfl) (hN:ndB X.N=true:=by kernel_rfl) (hi:X.N[j]?=some x:=by kernel_rfl) (hx:dZ X.env.scope x=true:=by kernel_rfl) (hf:X.fn x=true:=by kernel_rfl) (hs:HR e (some (.Name x pos')) pos.line X.env=pure false:=by kernel_rfl):FO1 X i (.Assign [.Name x pos'] e pos) (fq j fa) :=
 Bg hex j (HH hij) (cW hN) hi (cq hx) he hs (.inl hf)
theorem vg (hg:FA X es g) (hr:FOs X i sts fO) (hN:ndB X.N=true:=by kernel_rfl) (hi:X.N[i]?=some x:=by kernel_rfl) (hx:dZ X.env.scope x=true:=by kernel_rfl) (hf:X.fn x=true:=by kernel_rfl) (hs:HR (.List es lp) (some (.Name x pos')) pos.line X.env=pure false:=by kernel_rfl):FSs X (.Assign [.Name x pos'] (.List es lp) pos :: sts) (zk i g fO) :=
 xM (cW hN) hi (cq hx) hg hr hs (.inl hf)
theorem yf (hp:Li (p_ X.prog X.w) X.A X.env X.xe) (hi:FI X (.Name x py) iter src) (hb:FSs X body fS) (hc:X.calm=true:=by kernel_rfl) (hN:ndB X.N=true:=by kernel_rfl) (hx:X.N[i]?=some x:=by kernel_rfl) (hl:dZ X.env.scope x=true:=by kernel_rfl) (hf:X.fn x=true:=by kernel_rfl)
 (hs:∀ x,Hr iter X.env x=pure x:=by intro _; kernel_rfl):FS X (.For (.Name x py) iter body [] pos) (oP i js src fS) :=
 Ao i js hp hc hi (dw (cW hN) hx (cq hl) (.inl hf)) hb hs
theorem yg (hp:Li (p_ X.prog X.w) X.A X.env X.xe) (hi:FI X (.Name x py) iter src) (hb:FOs X i body fO) (hex:X.ex=[]:=by kernel_rfl) (hij:Ko i j=false:=by kernel_rfl) (hc:X.calm=true:=by kernel_rfl) (hN:ndB X.N=true:=by kernel_rfl) (hx:X.N[j]?=some x:=by kernel_rfl) (hl:dZ X.env.scope x=true:=by kernel_rfl) (hf:X.fn x=true:=by kernel_rfl)
 (hs:∀ x,Hr iter X.env x=pure x:=by intro _; kernel_rfl):FO1 X i (.For (.Name x py) iter body [] pos) (xN j js src fO) :=
 Bk hex j js (HH hij) hp hc hi (dw (cW hN) hx (cq hl) (.inl hf)) hb hs
theorem lX (hN:X.N[i]?=some x) (hv:dZ X.env.scope x=true) (hd:(x == ("__debug__":Str))=false) (hcd:(x == ("__classdict__":Str))=false):PE X (.Name x pos) (tL i):=pN hN ((cq hv).elim .inl fun h=>.inr (.inl h)) hd hcd
theorem yh (he:FE X e fa) (hx:PE X (.Name x apos) (tL i)) (hex:X.ex=[]:=by kernel_rfl)
 (hbase:IU (.Name x apos) "append" X.env (eval (.Name x apos) X.env)=eval (.Name x apos) X.env:=by kernel_rfl)
 (hfew:((Ho cpos (f_ [e] X.env)).all (fun x=>!x.1) && (Jn cpos (Io [] X.env)).all (fun x=>x.1.isSome)
   && decide ([e].length + ([]:List Jc).length + (if ([]:List Jc).isEmpty then 0 else 1) < 30))=true:=by kernel_rfl)
 (hline:(pt.endLine == cpos.line)=true:=by kernel_rfl) (hs:f_ [e] X.env=(false,eval e X.env) :: f_ [] X.env:=by kernel_rfl) (hplain:(Ho cpos (f_ [] X.env)).any (·.1)=false:=by kernel_rfl)
 (hsw:HR (.Call (.Attribute (.Name x apos) "append" pt) [e] [] cpos) none pos.line X.env=pure false:=by kernel_rfl):FO1 X i (.Expr (.Call (.Attribute (.Name x apos) "append" pt) [e] [] cpos) pos) (zj fa):=Bj hex hx he hbase hfew hline hs hplain hsw
end
section
variable {X:Cx} {o e:Expr} {es:List Expr} {fo:FnE} {ga:FnA} {apos cpos pos:Pos} {name:Str}
structure SmL (X:Cx) (o:Expr) (name:Str) (e:Expr) (es:List Expr) (apos cpos:Pos):Prop where
 base:IU o name X.env (eval o X.env)=eval o X.env
 few:((Ho cpos (f_ (e :: es) X.env)).all (fun x=>!x.1) && (Jn cpos (Io [] X.env)).all (fun x=>x.1.isSome)
  && decide ((e :: es).length + ([]:List Jc).length + (if ([]:List Jc).isEmpty then 0 else 1) < 30))=true
 line:(apos.endLine == cpos.line)=true
 s:f_ (e :: es) X.env=(false,eval e X.env) :: f_ es X.env
 plain:(Ho cpos (f_ es X.env)).any (·.1)=false
theorem lY {id:String} {r:V→List V→Hp→VK→Prop} {g:Str→List Dv→Option (Rs Dv)} (slot:Slot "str" name id) (hty:N_ (.builtin id)=pure (.type "method_descriptor")) (hm:MtR X id r)
 (hg:∀ i ds vs H Q,Reps X.K H ds vs→Out X H (g i ds) Q→r (.str i) vs H Q) (ho:FE X o fo) (ha:FA X (e :: es) ga) (h:SmL X o name e es apos cpos):FE X (.Call (.Attribute o name apos) (e :: es) [] cpos) (fM g fo ga) :=
 xj slot hty hm hg ho ha h.base h.few h.line h.s h.plain
end
section
open PySem.W
structure CA (K:ck) (mg:Str→Option Value) (cls:Nat→Addr) (CJ:Addr) (S:List Nat) (m:Nat):Prop where
 at_:∀ c∈S,mg (xnm c)=some (.ref (cls c))
 j:mg "JarError"=some (.ref CJ)
 xk:∀ c C,c < m→nsIn K C_ (xnm c)=some (some (.ref C))→excIn K C bmV "ValueError.__new__"=true∧mroIn K C (.ref CJ)=some true
theorem CA.c {K:ck} {mg:Str→Option Value} {cls:Nat→Addr} {CJ:Addr} {S:List Nat} {m c:Nat} {x:Str} (h:CA K mg cls CJ S m) (hc:c∈S) (hx:xnm c=x):mg x=some (.ref (cls c)):=by
 subst hx
 exact h.at_ c hc
def nsB (K:ck) (x:Str) (a:Addr):Bool:=match nsIn K C_ x with
 | some (some (.ref b))=>Ko a b
 | _=>false
theorem wf {K:ck} {x:Str} {a:Addr} (h:nsB K x a=true):nsIn K C_ x=some (some (.ref a)):=by
 unfold nsB at h
 split at h
 · rename_i b e
   rw [e,Jx h]
 · cases h
def caB (K:ck) (S:List Nat) (Cs:List Addr) (CJ:Addr) (m:Nat):Bool:=S.all (fun c=>nsB K (xnm c) (Cs.getD c 0)) && nsB K "JarError" CJ && EL K S Cs CJ && (h_ m).all fun c=>S.contains c || (match nsIn K C_ (xnm c) with | some none=>true | _=>false)
theorem Fg {K:ck} {mg:Str→Option Value} {h:Heap} {S:List Nat} {Cs:List Addr} {CJ:Addr} {m:Nat} (X:K.In h) (G:h.Ns C_ mg) (e:caB K S Cs CJ m=true):XAllS K S (fun c=>Cs.getD c 0) CJ∧CA K mg (fun c=>Cs.getD c 0) CJ S m:=by
 unfold caB at e
 rw [j_,j_,j_] at e
 obtain ⟨⟨⟨e1,e2⟩,e3⟩,e4⟩:=e
 have hn:∀ c∈S,nsIn K C_ (xnm c)=some (some (.ref (Cs.getD c 0))):=fun c hc=>wf (HV.1 e1 c hc)
 have xa:=uN hn e3
 refine ⟨xa,fun c hc=>mg_of X G (hn c hc),mg_of X G (wf e2),fun c C hc q=>?_⟩
 have h1:=HV.1 e4 c (IF.2 hc)
 rw [Bool.or_eq_true] at h1
 rcases h1 with h1 | h1
 · have h':c∈S:=by simpa using h1
   rw [xa.same h' q]
   exact ⟨(xa.at_ c h').2.1,(xa.at_ c h').2.2.2.1⟩
 · rw [q] at h1
   cases h1
end
noncomputable abbrev nsM (K:ck) (x:Str):Option (Option Value):=Jp K C_ x
structure Af (K:ck) (x:Str) (st:Stmt) (f:Addr):Prop where
 a:nsM K x=some (some (.ref f))
 F:∃ fd,Fun K x x st f fd
 k:IE K (.ref f)=true
def fnB (N P:List Str) (sc:Scope):Bool:=decide (sc.kind=.function) && !sc.isCoroutine && !sc.isGenerator && ndB N && decide (N.take P.length=P) && P.all (dZ sc) && decide (∀ y∈sc.names,y.2≠.free)
theorem Dy {N P:List Str} {sc:Scope} (h:fnB N P sc=true):dz N P sc:=by
 unfold fnB at h
 simp only [j_,decide_eq_true_eq,Iw] at h
 exact ⟨h.1.1.1.1.1.1,h.1.1.1.1.1.2,h.1.1.1.1.2,cW h.1.1.1.2,h.1.1.2,fun x hx=>cq (HV.1 h.1.2 x hx),h.2⟩
section
variable {P:Program} {w:D_} {K:ck} {mg:Str→Option Value} {base:Heap} {h:Heap} {k:Nat} {x:Str} {st:Stmt} {f:Addr} {F:List Dv→Option (Rs Dv)}
def Fh (x:Str) (st:Stmt) (ps:List Str):Prop:=∀ (kV doc pm:Value) (an:Option Addr) (cdv ct:Value) (us:List Value),us.length=ps.length→bindArgs (Kk x x (fP st) (bC st) (au st) .none kV doc pm an cdv ct) ⟨us,[]⟩=pure (ps.zip us)
theorem aC (XI:K.In h) (Gn:h.Ns C_ mg) (N ps:List Str) (fb:FnS) (A:Af K x st f) (hbd:Fh x st ps)
 (hb:∀ (cdv:Value) (A:w_) (outer:List Env) (s:c_) (H:Hp) (E:XK),Room k (A.deeper (Ld x (au st) s.heap.objs.size f cdv))→FSs (mS CX0 P w K mg base N x (au st) f cdv A outer s H E).nox (bC st) fb) (hF:F=bg N.length fb:=by kernel_rfl) (hs:fnB N ps (au st)=true:=by kernel_rfl):Has P w K mg base x (k + 1) ps F :=
 let ⟨_,Fn⟩:=A.F
 ⟨_,_,vP N ps fb hF rfl Fn (Dy hs) hb,K3 XI Gn A.a,A.k,Fn.binds hbd⟩
theorem ie (XI:K.In h) (Gn:h.Ns C_ mg) (N ps:List Str) (fb:FnS) (A:Af K x st f) (hbd:Fh x st ps)
 (hb:∀ (cdv:Value) (A:w_) (outer:List Env) (s:c_) (H:Hp) (E:XK),Room k (A.deeper (Ld x (au st) s.heap.objs.size f cdv))→FSs (mS (CXE P w) P w K mg base N x (au st) f cdv A outer s H E) (bC st) fb) (hF:F=j4 N.length fb:=by kernel_rfl) (hs:fnB N ps (au st)=true:=by kernel_rfl):Dr P w K mg base x (k + 1) ps F :=
 let ⟨_,Fn⟩:=A.F
 ⟨_,_,AT N ps fb hF rfl Fn (Dy hs) hb,K3 XI Gn A.a,A.k,Fn.binds hbd⟩
theorem yi (XI:K.In h) (Gn:h.Ns C_ mg) (N ps:List Str) (fb:FnS) (A:Af K x st f) (hbd:Fh x st ps)
 (hb:∀ (cdv:Value) (A:w_) (outer:List Env) (s:c_) (H:Hp),RoomM k (A.deeper (Ld x (au st) s.heap.objs.size f cdv))→FSs (cxM P w K mg base N x (au st) f cdv A outer s H) (bC st) fb) (hF:F=bg N.length fb:=by kernel_rfl) (hs:fnB N ps (au st)=true:=by kernel_rfl):Ds P w K mg base x (k + 1) ps F :=
 let ⟨_,Fn⟩:=A.F
 ⟨_,_,AY N ps fb hF Fn (Dy hs) hb,K3 XI Gn A.a,A.k,Fn.binds hbd⟩
end
section
theorem yj {X:Cx} {pl:List (Addr×Obj)} {e:Addr} {k:Nat} (h:Room k X.A):RoomM k (ku X pl e).A:=⟨h.dp,h.un⟩
end
def isI (k:Int):Value→Bool
 | .int m _=>decide (m=k)
 | _=>false
theorem BQ:∀ {is:List Int} {us:List Value} {y:Value},Vals (is.map V.int) us→y∈us→∃ m t,y=.int m t
 | [],_,_,.nil,h=>by cases h
 | m :: is,_,y,.cons r t,h=>by
  rcases on.mp h with e | h
  · obtain ⟨tk,e2⟩:=r
    exact ⟨m,tk,e.trans e2⟩
  · exact BQ t h
def ix (k:Int):List Int→Nat
 | []=>0
 | m :: r=>if m=k then 0 else ix k r + 1
def er (k:Int):List Int→List Int
 | []=>[]
 | m :: r=>if m=k then r else m :: er k r
theorem yk (k:Int):∀ l:List Int,l.eraseIdx (ix k l)=er k l
 | []=>rfl
 | m :: r=>by
  unfold ix er
  by_cases e:m=k
  · simp [e]
  · simp [e,yk k r]
theorem BR {k:Int}:∀ {is:List Int} {us:List Value},Vals (is.map V.int) us→k∈is→∃ hj:ix k is < us.length,isI k us[ix k is]=true∧∀ i (hi:i < us.length),i < ix k is→isI k us[i]=false
 | [],_,.nil,h=>by cases h
 | m :: is,_,.cons (b:=u) r t,h=>by
  obtain ⟨tk,rfl⟩:=r
  by_cases e:m=k
  · subst e
    have e0:ix m (m :: is)=0:=by simp [ix]
    refine ⟨by rw [e0]; simp,by simp [e0,isI],fun i _ hlt=>by rw [e0] at hlt; omega⟩
  · have h2:k∈is:=by
     rcases on.mp h with w | w
     · exact absurd w.symm e
     · exact w
    obtain ⟨a,b,c⟩:=BR t h2
    have ex:ix k (m :: is)=ix k is + 1:=by
     simp [ix,e]
    refine ⟨by rw [ex]; simpa using a,?_,fun i hi hlt=>?_⟩
    · simp only [ex,List.getElem_cons_succ]
      exact b
    · cases i with
      | zero=>simp [isI,e]
      | succ i =>
       rw [ex] at hlt
       simpa using c i (by simpa using hi) (by omega)
def yl:V→List V→Hp→VK→Prop:=fun x vs H Q=>∃ (l:Addr) (is:List Int) (k:Int),x=.ref l∧vs=[.int k]∧H l=some (.lst (is.map V.int))∧k∈is∧Q .non (upd H l (.lst ((er k is).map V.int)))
theorem ig {α β:Type} (f:α→β):∀ (l:List α) (j:Nat),(l.eraseIdx j).map f=(l.map f).eraseIdx j
 | [],_=>rfl
 | _ :: _,0=>rfl
 | a :: l,j + 1=>by simp [ig f l j]
theorem rZ {X:Cx}:MtM X "list.remove" yl:=by
 intro pins s σ H x vs v us Q I rx rv h
 obtain ⟨l,is,k,rfl,rfl,hH,hk,q⟩:=h
 cases rx
 obtain ⟨u,rfl,ru⟩:=rv.one
 obtain ⟨tk,rfl⟩:=ru
 obtain ⟨z,its,n,r,hl,e⟩:=I.lstM hH
 obtain ⟨a,b,c⟩:=BR r hk
 refine JQ Nw ⟨_,e,rfl⟩ F.entry_list_remove (F.args_list_remove_2 _ _) (MeetsSeq.list_remove l its.toArray n (.int k tk) (isI k) (fun y hy=>?_) (ix k is) (by simpa using a) (by simpa using b) (fun m hm hlt=>by simpa using c m (by simpa using hm) hlt) (by rw [uk]; omega)) ⟨e,?_⟩
 · obtain ⟨m,t,rfl⟩:=BQ r (by simpa using hy)
   exact MeetsSeq.EqGives.int m k t tk
 · refine ⟨.non,_,I.lset (its':=its.eraseIdx (ix k is)) (ys:=(er k is).map V.int) hH e ?_ ?_ ?_,rfl,q⟩
   · show its.toArray.eraseIdxIfInBounds _=(its.eraseIdx _).toArray
     rw [List.eraseIdxIfInBounds_toArray]
   · rw [← yk,ig]
     exact r.eraseIdx _
   · rw [← yk,ig,List.length_eraseIdx]
     split <;> omega
structure S2 (X:Cx) (i k:Nat) (a b:Addr) (H:Hp) (σ:L2.St) (Hf:Hp) (ρ:Ev):Prop where
 off:∀ c,c≠a→c≠b→Hf c=H c
 na:H a=none
 nb:H b=none
 ne:a≠b
 ia:σ[i]?=some (some (.ref a))
 kb:σ[k]?=some (some (.ref b))
 len:σ.length=ρ.length
 low:∀ j d,j≠i→j≠k→ρ[j]?=some (some d)→∃ v,σ[j]?=some (some v)∧Rep X.K H d v
 fst:∃ ds xs,ρ[i]?=some (some (.lst ds))∧Hf a=some (.lst xs)∧Reps X.K H ds xs
 snd:∃ es ys,ρ[k]?=some (some (.lst es))∧Hf b=some (.lst ys)∧Reps X.K H es ys
section
variable {X:Cx} {i k:Nat} {a b:Addr} {H Hf:Hp} {σ:L2.St} {ρ:Ev}
theorem S2.up (S:S2 X i k a b H σ Hf ρ):Same H Hf:=fun c u q=>by
 rw [S.off c (am q S.na) (am q S.nb)]; exact q
theorem S2.full (S:S2 X i k a b H σ Hf ρ):Envs X.K Hf σ ρ:=by
 refine ⟨S.len,fun j d hj=>?_⟩
 by_cases hi:j=i
 · subst hi
   obtain ⟨ds,xs,h1,h2,h3⟩:=S.fst
   rw [h1] at hj
   cases hj
   exact ⟨_,S.ia,a,xs,rfl,h2,Reps.mono S.up _ _ h3⟩
 · by_cases hk:j=k
   · subst hk
     obtain ⟨ds,xs,h1,h2,h3⟩:=S.snd
     rw [h1] at hj
     cases hj
     exact ⟨_,S.kb,b,xs,rfl,h2,Reps.mono S.up _ _ h3⟩
   · obtain ⟨v,h1,h2⟩:=S.low j d hi hk hj
     exact ⟨v,h1,Rep.mono S.up _ _ h2⟩
theorem S2.down (S:S2 X i k a b H σ Hf ρ) {d:Dv} {v:V} (i':imm d=true) (r:Rep X.K Hf d v):Rep X.K H d v :=
 Rep.tups (fun c ys q=>by
  by_cases hb:c=a
  · obtain ⟨_,_,_,h,_⟩:=S.fst
    rw [hb,h] at q; cases q
  · by_cases hb2:c=b
    · obtain ⟨_,_,_,h,_⟩:=S.snd
      rw [hb2,h] at q; cases q
    · rw [S.off c hb hb2] at q; exact q) d v i' r
theorem S2.grow (S:S2 X i k a b H σ Hf ρ) {Hg:Hp} (e:Same Hf Hg):∃ H',Same H H'∧S2 X i k a b H' σ Hg ρ:=by
 obtain ⟨ds,xs,f1,f2,f3⟩:=S.fst
 obtain ⟨es,ys,g1,g2,g3⟩:=S.snd
 have up:Same H (fun c=>if c=a∨c=b then none else Hg c):=fun c u q=>by
  have h1:=am q S.na
  have h2:=am q S.nb
  simp only [h1,h2,or_self,if_false]
  exact e c u (by rw [S.off c h1 h2]; exact q)
 refine ⟨_,up,⟨fun c h1 h2=>by simp [h1,h2],by simp,by simp,S.ne,S.ia,S.kb,S.len,fun j d h1 h2 h3=>?_,⟨ds,xs,f1,e _ _ f2,Reps.mono up _ _ f3⟩,⟨es,ys,g1,e _ _ g2,Reps.mono up _ _ g3⟩⟩⟩
 obtain ⟨v,q1,q2⟩:=S.low j d h1 h2 h3
 exact ⟨v,q1,Rep.mono up _ _ q2⟩
theorem S2.put (S:S2 X i k a b H σ Hf ρ) {j:Nat} {d:Dv} {v:V} (h1:j≠i) (h2:j≠k) (r:Rep X.K H d v):S2 X i k a b H (σ.set j (some v)) Hf (ρ.set j (some d)):=by
 obtain ⟨ds,xs,f1,f2,f3⟩:=S.fst
 obtain ⟨es,ys,g1,g2,g3⟩:=S.snd
 refine ⟨S.off,S.na,S.nb,S.ne,by rw [s_ h1]; exact S.ia,by rw [s_ h2]; exact S.kb,by rw [HE,HE]; exact S.len,fun m d' m1 m2 hm=>?_,⟨ds,xs,by rw [s_ h1]; exact f1,f2,f3⟩,⟨es,ys,by rw [s_ h2]; exact g1,g2,g3⟩⟩
 by_cases hj:j=m
 · subst hj
   by_cases hl:j < ρ.length
   · rw [B_ hl] at hm
     cases hm
     exact ⟨v,by rw [B_ (by rw [S.len]; exact hl)],r⟩
   · rw [Jf (by rw [HE]; omega)] at hm
     cases hm
 · rw [s_ hj] at hm
   rw [s_ hj]
   exact S.low m d' m1 m2 hm
theorem S2.fstL (S:S2 X i k a b H σ Hf ρ) (hik:i≠k) {ds:List Dv} {xs:List V} (r:Reps X.K H ds xs):S2 X i k a b H σ (upd Hf a (.lst xs)) (ρ.set i (some (.lst ds))):=by
 obtain ⟨ds0,xs0,f1,f2,f3⟩:=S.fst
 obtain ⟨es,ys,g1,g2,g3⟩:=S.snd
 have hl:i < ρ.length:=(v_.mp f1).1
 refine ⟨fun c h1 h2=>by rw [al h1]; exact S.off c h1 h2,S.na,S.nb,S.ne,S.ia,S.kb,by rw [HE]; exact S.len,fun m d' m1 m2 hm=>?_,⟨ds,xs,B_ hl,ak,r⟩,⟨es,ys,by rw [s_ hik]; exact g1,by rw [al (IG S.ne)]; exact g2,g3⟩⟩
 rw [s_ (IG m1)] at hm
 exact S.low m d' m1 m2 hm
theorem S2.sndL (S:S2 X i k a b H σ Hf ρ) (hik:i≠k) {ds:List Dv} {xs:List V} (r:Reps X.K H ds xs):S2 X i k a b H σ (upd Hf b (.lst xs)) (ρ.set k (some (.lst ds))):=by
 obtain ⟨ds0,xs0,f1,f2,f3⟩:=S.fst
 obtain ⟨es,ys,g1,g2,g3⟩:=S.snd
 have hl:k < ρ.length:=(v_.mp g1).1
 refine ⟨fun c h1 h2=>by rw [al h2]; exact S.off c h1 h2,S.na,S.nb,S.ne,S.ia,S.kb,by rw [HE]; exact S.len,fun m d' m1 m2 hm=>?_,⟨ds0,xs0,by rw [s_ (IG hik)]; exact f1,by rw [al S.ne]; exact f2,f3⟩,⟨ds,xs,B_ hl,ak,r⟩⟩
 rw [s_ (IG m2)] at hm
 exact S.low m d' m1 m2 hm
end
abbrev FnP:=Ev→Option Ev
def AftP (X:Cx) (i k:Nat) (a b:Addr) (H:Hp) (o:Option Ev) (N:L2.St→Hp→Prop):Prop:=∃ ρ',o=some ρ'∧∀ σ' H' Hf',Same H H'→S2 X i k a b H' σ' Hf' ρ'→N σ' Hf'
def tP (X:Cx) (i k:Nat) (f:FnP):TS:=fun D σ Hf=>∃ H a b ρ,S2 X i k a b H σ Hf ρ∧AftP X i k a b H (f ρ) D.nx
structure FP (X:Cx) (i k:Nat) (st:Stmt) (f:FnP):Prop where
 h:PS X st (tP X i k f)
structure FPs (X:Cx) (i k:Nat) (st:List Stmt) (f:FnP):Prop where
 h:PSs X st (tP X i k f)
def zm (f g:FnP):FnP:=fun ρ=>(f ρ).bind g
def zn (j:Nat) (f:FnE):FnP:=fun ρ=>match f ρ with
 | some (.ok d)=>if imm d=true then some (ρ.set j (some d)) else none
 | _=>none
def vh (c:FnB) (f:FnE) (p q:Nat):List Dv→FnP
 | [],ρ=>some ρ
 | d :: ds,ρ=>match c (ρ.set p (some d)) with
  | some (.ok true)=>(match f (ρ.set p (some d)) with
   | some (.ok e)=>if imm e=true then vh c f p q ds ((ρ.set p (some d)).set q (some e)) else none
   | _=>none)
  | some (.ok false)=>vh c f p q ds (ρ.set p (some d))
  | _=>none
def lZ (src:FnA) (c:FnB) (f:FnE) (p q:Nat):FnP:=fun ρ=>match src ρ with
 | some (.ok us)=>if imms us=true then vh c f p q us ρ else none
 | _=>none
def ym (i:Nat) (f:FnE):FnP:=fun ρ=>match ρ[i]?,f ρ with
 | some (some (.lst ds)),some (.ok d)=>if imm d=true∧ds.length < 100000 then some (ρ.set i (some (.lst (ds ++ [d])))) else none
 | _,_=>none
def jH:List Dv→Option (List Int)
 | []=>some []
 | .int m :: r=>(jH r).map (m :: ·)
 | _ :: _=>none
def zo (k:Nat) (f:FnE):FnP:=fun ρ=>match ρ[k]?,f ρ with
 | some (some (.lst ds)),some (.ok (.int m))=>(match jH ds with
  | some is=>if m∈is then some (ρ.set k (some (.lst ((er m is).map Dv.int)))) else none
  | none=>none)
 | _,_=>none
def pWh (c:FnB) (f:FnP):Nat→FnP
 | 0,_=>none
 | n + 1,ρ=>match c ρ with
  | some (.ok true)=>(f ρ).bind (pWh c f n)
  | some (.ok false)=>some ρ
  | _=>none
section
variable {X:Cx} {i k:Nat} {st:Stmt} {sts:List Stmt} {f g:FnP} {fe:FnE} {gb:FnB} {e c:Expr} {pos:Pos}
theorem AftP.mono {a b:Addr} {H H':Hp} {o:Option Ev} {N:L2.St→Hp→Prop} (e:Same H H'):AftP X i k a b H o N→AftP X i k a b H' o N
 | ⟨ρ',h,q⟩=>⟨ρ',h,fun σ' H1 Hf' e1=>q σ' H1 Hf' (e.trans e1)⟩
theorem yn (h1:FP X i k st f):FPs X i k [st] f:=⟨gJ h1.h⟩
theorem vi (h1:FP X i k st f) (h2:FPs X i k sts g):FPs X i k (st :: sts) (zm f g):=⟨fun pins s σ Hf D I ⟨H,a,b,ρ,S,ρ',hf,o⟩=>by
 cases h:f ρ with
 | none=>rw [zm,h] at hf; cases hf
 | some ρ1 =>
  rw [zm,h] at hf
  exact c6 h1.h h2.h pins s σ Hf D I ⟨H,a,b,ρ,S,ρ1,h,fun σ' H' Hf' e1 S'=>⟨H',a,b,ρ1,S',ρ',hf,fun σ2 H2 Hf2 e2=>o σ2 H2 Hf2 (e1.trans e2)⟩⟩⟩
theorem BS (j:Nat) (h1:j≠i) (h2:j≠k) {x:Str} {pos':Pos} (hN:X.N.Nodup) (hi:X.N[j]?=some x) (hx:Loc X.env.scope x) (he:FE X e fe) (hs:HR e (some (.Name x pos')) pos.line X.env=pure false:=by kernel_rfl) (hf:X.fn x=true∨X.env.scope.names.lookup x=some .local:=by first | exact .inl rfl | exact .inr rfl | assumption) :
 FP X i k (.Assign [.Name x pos'] e pos) (zn j fe):=⟨fun pins s σ Hf D I ⟨H,a,b,ρ,S,ρ',o,w⟩=>by
 refine gL hN hi hx he.h hs hf pins s σ Hf D I ⟨ρ,S.full,?_⟩
 unfold zn at o
 split at o
 · rename_i d hd
   split at o
   · rename_i im
     cases o
     rw [hd]
     intro v Hg eg r
     obtain ⟨H',e',S'⟩:=S.grow eg
     exact w _ H' Hg e' (S'.put h1 h2 (S'.down im r))
   · cases o
 · cases o⟩
theorem yo {tg iter e6:Expr} {src:FnA} {p1 p2 p3:Pos} (p q:Nat) (hpi:p≠i) (hpk:p≠k) (hqi:q≠i) (hqk:q≠k) (hp:Li (p_ X.prog X.w) X.A X.env X.xe) (hc:X.calm=true) (hi:FI X tg iter src) (hg:PG X tg (gK p)) (ht:FT X c gb)
 {x:Str} {pos':Pos} (hN:X.N.Nodup) (hiq:X.N[q]?=some x) (hx:Loc X.env.scope x) (he:FE X e6 fe) (hs:HR e6 (some (.Name x pos')) p1.line X.env=pure false:=by kernel_rfl)
 (hsf:∀ x,Hr iter X.env x=pure x:=by intro _; kernel_rfl)
 (hf:X.fn x=true∨X.env.scope.names.lookup x=some .local:=by first | exact .inl rfl | exact .inr rfl | assumption) :
 FP X i k (.For tg iter [.If c [.Assign [.Name x pos'] e6 p1] [] p2] [] p3) (lZ src gb fe p q):=⟨fun pins s σ Hf D I ⟨H,a,b,ρ,S,ρ',o,w⟩=>by
 refine pU hp hc hi.h hg (gJ (wC ht.h (gJ (gL hN hiq hx he.h hs hf)) lD)) hsf pins s σ Hf D I ⟨ρ,S.full,?_⟩
 unfold lZ at o
 split at o
 · rename_i us hus
   split at o
   · rename_i him
     rw [hus]
     intro J Hg eg wk
     obtain ⟨H1,e1,S1⟩:=S.grow eg
     refine ⟨fun n m σ' Hf'=>m=us.length - n∧n≤us.length∧Same Hg Hf'∧∃ H' ρ1,S2 X i k a b H' σ' Hf' ρ1∧Same H1 H'∧vh gb fe p q (us.drop n) ρ1=some ρ',⟨us.length,by simp,Hq _,.refl _,H1,ρ,S1,.refl _,by simpa using o⟩,?_⟩
     rintro n m σ' Hf' ⟨rfl,hn,eg',H',ρ1,S',e',o'⟩
     by_cases hlt:n < us.length
     · refine .inr ⟨wk.go n _ eg' hlt,fun σ2 Hf2=>Same Hg Hf2∧∃ H2 ρ2,S2 X i k a b H2 σ2 Hf2 ρ2∧Same H1 H2∧vh gb fe p q (us.drop (n + 1)) ρ2=some ρ',fun σ2 Hf2 q=>⟨us.length - (n + 1),by omega,rfl,hlt,q⟩,fun x H2 y=>?_⟩
       obtain ⟨rfl,d,hd,rd⟩:=wk.yld n _ x H2 eg' hlt y
       have S2':=S'.put hpi hpk (S'.down (fu him hd) rd)
       rw [fg hd] at o'
       unfold vh at o'
       refine ⟨_,S2'.full,?_⟩
       split at o'
       · rename_i hg1
         rw [hg1]
         split at o'
         · rename_i e hg2
           split at o'
           · rename_i ime
             intro H3 e3
             refine ua ⟨_,S2'.full.mono e3,?_⟩
             rw [hg2]
             intro v H4 e4 r4
             obtain ⟨H5,e5,S5⟩:=S2'.grow (e3.trans e4)
             exact ⟨eg'.trans (e3.trans e4),H5,_,S5.put hqi hqk (S5.down ime r4),e'.trans e5,o'⟩
           · cases o'
         · cases o'
       · rename_i hg1
         rw [hg1]
         intro H3 e3
         obtain ⟨H5,e5,S5⟩:=S2'.grow e3
         exact tZ ⟨eg'.trans e3,H5,_,S5,e'.trans e5,o'⟩
       · cases o'
     · have hn':n=us.length:=by omega
       subst hn'
       rw [LN] at o'
       cases o'
       exact .inl ⟨wk.stop _ eg',w σ' H' Hf' (e1.trans e') S'⟩
   · cases o
 · cases o⟩
theorem vj {body:List Stmt} (n:Nat) (hp:Li (p_ X.prog X.w) X.A X.env X.xe) (hc:FT X c gb) (hb:FPs X i k body f):FP X i k (.While c body [] pos) (pWh gb f n):=⟨fun pins s σ Hf D I ⟨H,a,b,ρ,S,ρ',o,w⟩=>by
 refine tN hp hc.h hb.h pins s σ Hf D I ⟨fun m σ' Hf'=>∃ H' ρ1,S2 X i k a b H' σ' Hf' ρ1∧Same H H'∧pWh gb f m ρ1=some ρ',⟨n,H,ρ,S,.refl _,o⟩,?_⟩
 rintro m σ' Hf' ⟨H',ρ1,S',e',o'⟩
 cases m with
 | zero=>cases o'
 | succ m =>
  unfold pWh at o'
  refine ⟨ρ1,S'.full,?_⟩
  split at o'
  · rename_i hg
    rw [hg]
    intro Hg eg
    obtain ⟨H2,e2,S2'⟩:=S'.grow eg
    cases hf:f ρ1 with
    | none=>rw [hf] at o'; cases o'
    | some ρ2 =>
     rw [hf] at o'
     exact ua ⟨fun σ3 Hf3=>∃ H3,S2 X i k a b H3 σ3 Hf3 ρ2∧Same H H3,fun σ3 Hf3 ⟨H3,S3,e3⟩=>⟨m,Ij m,H3,ρ2,S3,e3,o'⟩,H2,a,b,ρ1,S2',ρ2,hf,fun σ3 H3 Hf3 e3 S3=>⟨H3,S3,(e'.trans e2).trans e3⟩⟩
  · rename_i hg
    cases o'
    rw [hg]
    intro Hg eg
    obtain ⟨H2,e2,S2'⟩:=S'.grow eg
    exact tZ (w σ' H2 Hg (e'.trans e2) S2')
  · cases o'⟩
theorem BU (hik:i≠k) {x:Str} {apos cpos:Pos} (hx:PE X (.Name x apos) (tL i)) (he:FE X e fe)
 (hbase:IU (.Name x apos) "append" X.env (eval (.Name x apos) X.env)=eval (.Name x apos) X.env:=by kernel_rfl)
 (hfew:((Ho cpos (f_ [e] X.env)).all (fun x=>!x.1) && (Jn cpos (Io [] X.env)).all (fun x=>x.1.isSome)
   && decide ([e].length + ([]:List Jc).length + (if ([]:List Jc).isEmpty then 0 else 1) < 30))=true:=by kernel_rfl)
 {ap:Pos} (hline:(ap.endLine == cpos.line)=true:=by kernel_rfl) (hs:f_ [e] X.env=(false,eval e X.env) :: f_ [] X.env:=by kernel_rfl) (hplain:(Ho cpos (f_ [] X.env)).any (·.1)=false:=by kernel_rfl)
 (hsw:HR (.Call (.Attribute (.Name x apos) "append" ap) [e] [] cpos) none pos.line X.env=pure false:=by kernel_rfl) :
 FP X i k (.Expr (.Call (.Attribute (.Name x apos) "append" ap) [e] [] cpos) pos) (ym i fe):=⟨fun pins s σ Hf D I ⟨H,a,b,ρ,S,ρ',o,w⟩=>by
 refine jl (oN Jm Kx MP kh hx (gU he iL hs).h hbase hfew hline hs hplain) hsw pins s σ Hf D I ?_
 obtain ⟨ds,xs,f1,f2,f3⟩:=S.fst
 unfold ym at o
 rw [f1] at o
 match hfe:fe ρ with
 | none=>rw [hfe] at o; cases o
 | some (.exc _)=>rw [hfe] at o; cases o
 | some (.ok d) =>
  rw [hfe] at o
  simp only at o
  split at o
  · rename_i hl
    cases o
    refine ⟨.ref a,S.ia,.inl ⟨rfl,xs,SqL.of f2⟩,ρ,S.full,?_⟩
    show OutA X Hf (aa fe ah ρ) _
    rw [ae hfe ar]
    intro vs Hg eg rs
    obtain ⟨v,rfl,rv⟩:=bD rs
    have hz:xs.length < sizeLine:=by
     have:=f3.length
     have h2:=ba (n:=xs.length + 1) (by omega)
     omega
    obtain ⟨H',e',S'⟩:=S.grow eg
    exact ⟨a,xs,v,rfl,rfl,eg _ _ f2,hz,w σ H' _ e' (S'.fstL hik ((Reps.mono e' _ _ f3).append ⟨v,[],rfl,S'.down hl.1 rv,rfl⟩))⟩
  · cases o⟩
theorem kZ {K:ck} {H:Hp}:∀ {ds:List Dv} {is:List Int} {xs:List V},jH ds=some is→Reps K H ds xs→xs=is.map V.int
 | [],_,_,h,r=>by
  cases h
  exact (show _=[] from r)
 | d :: ds,is,xs,h,r=>by
  obtain ⟨v,us,rfl,rv,rs⟩:∃ v us,xs=v :: us∧Rep K H d v∧Reps K H ds us:=r
  cases d <;> try (cases h; done)
  rename_i m
  unfold jH at h
  cases hi:jH ds with
  | none=>rw [hi] at h; cases h
  | some js =>
   rw [hi] at h
   cases h
   cases (show v=.int m from rv)
   rw [y_,← kZ hi rs]
theorem BV (hik:i≠k) {x:Str} {apos cpos:Pos} (hx:PE X (.Name x apos) (tL k)) (he:FE X e fe)
 (hbase:IU (.Name x apos) "remove" X.env (eval (.Name x apos) X.env)=eval (.Name x apos) X.env:=by kernel_rfl)
 (hfew:((Ho cpos (f_ [e] X.env)).all (fun x=>!x.1) && (Jn cpos (Io [] X.env)).all (fun x=>x.1.isSome)
   && decide ([e].length + ([]:List Jc).length + (if ([]:List Jc).isEmpty then 0 else 1) < 30))=true:=by kernel_rfl)
 {ap:Pos} (hline:(ap.endLine == cpos.line)=true:=by kernel_rfl) (hs:f_ [e] X.env=(false,eval e X.env) :: f_ [] X.env:=by kernel_rfl) (hplain:(Ho cpos (f_ [] X.env)).any (·.1)=false:=by kernel_rfl)
 (hsw:HR (.Call (.Attribute (.Name x apos) "remove" ap) [e] [] cpos) none pos.line X.env=pure false:=by kernel_rfl) :
 FP X i k (.Expr (.Call (.Attribute (.Name x apos) "remove" ap) [e] [] cpos) pos) (zo k fe):=⟨fun pins s σ Hf D I ⟨H,a,b,ρ,S,ρ',o,w⟩=>by
 refine jl (oN Jm Nw PySem.F.type_list_remove rZ hx (gU he iL hs).h hbase hfew hline hs hplain) hsw pins s σ Hf D I ?_
 obtain ⟨ds,xs,f1,f2,f3⟩:=S.snd
 unfold zo at o
 rw [f1] at o
 match hfe:fe ρ with
 | none=>rw [hfe] at o; cases o
 | some (.exc _)=>rw [hfe] at o; cases o
 | some (.ok d) =>
  rw [hfe] at o
  cases d <;> try (cases o; done)
  rename_i m
  simp only at o
  cases hi:jH ds with
  | none=>rw [hi] at o; cases o
  | some is =>
   rw [hi] at o
   simp only at o
   split at o
   · rename_i hm
     cases o
     refine ⟨.ref b,S.kb,.inl ⟨rfl,xs,SqL.of f2⟩,ρ,S.full,?_⟩
     show OutA X Hf (aa fe ah ρ) _
     rw [ae hfe ar]
     intro vs Hg eg rs
     obtain ⟨v,rfl,rv⟩:=bD rs
     cases (show v=.int m from rv)
     obtain ⟨H',e',S'⟩:=S.grow eg
     have hxs:=kZ hi f3
     subst hxs
     exact ⟨b,is,m,rfl,rfl,eg _ _ f2,hm,w σ H' _ e' (S'.sndL hik (kH _ _))⟩
   · cases o⟩
def Dz (i k:Nat) (ga:FnA) (f:FnP) (g:FnS):FnS:=fun ρ=>match ga (ρ.set i (some (.lst []))) with
 | some (.ok [.lst es])=>if imms es=true then (match f ((ρ.set i (some (.lst []))).set k (some (.lst es))) with
  | some ρ'=>g ρ'
  | none=>none) else none
 | _=>none
theorem yp {x y:Str} {p1 p2 p3 p4 p5 p6 p7:Pos} {ga:FnA} {gs:FnS} (hik:i≠k) (hN:X.N.Nodup) (hi:X.N[i]?=some x) (hk:X.N[k]?=some y) (hx:Loc X.env.scope x) (hy:Loc X.env.scope y)
 (hg:Gl X "list") (hm:X.mg "list"=none) (ha:FA X [e] ga) (hw:FP X i k st f) (hr:FSs X sts gs)
 (he:f_ [e] X.env=[(false,eval e X.env)]:=by kernel_rfl) (hpl:(Ho p6 (f_ [] X.env)).any (·.1)=false:=by kernel_rfl)
 (hs1:HR (.List [] p2) (some (.Name x p1)) p3.line X.env=pure false:=by kernel_rfl) (hs2:HR (.Call (.Name "list" p5) [e] [] p6) (some (.Name y p4)) p7.line X.env=pure false:=by kernel_rfl)
 (hf1:X.fn x=true∨X.env.scope.names.lookup x=some .local:=by first | exact .inl rfl | exact .inr rfl | assumption) (hf2:X.fn y=true∨X.env.scope.names.lookup y=some .local:=by first | exact .inl rfl | exact .inr rfl | assumption) :
 FSs X (.Assign [.Name x p1] (.List [] p2) p3 :: .Assign [.Name y p4] (.Call (.Name "list" p5) [e] [] p6) p7 :: st :: sts) (Dz i k ga f gs):=⟨fun pins s σ H D I ⟨ρ,E,o⟩=>by
 refine c6 (gL (i:=i) hN hi hx (p8 (iL (X:=X)).h) hs1 hf1) (c6 (gL (i:=k) hN hk hy (gO gc hg hm (by decide +kernel) ha.h (by decide) (by decide) he hpl) hs2 hf2) (c6 hw.h hr.h)) pins s σ H D I ⟨ρ,E,?_⟩
 have hil:i < σ.length:=by rw [I.len]; exact (v_.mp hi).1
 have hkl:k < σ.length:=by rw [I.len]; exact (v_.mp hk).1
 intro vs H1 e1 rs
 cases (show vs=[] from rs)
 refine ⟨by decide,fun p hp=>?_⟩
 have e2:Same H1 (upd H1 p (.lst [])):=aq hp _
 have E2:Envs X.K (upd H1 p (.lst [])) (σ.set i (some (.ref p))) (ρ.set i (some (.lst []))):=((E.mono e1).mono e2).set ⟨p,[],rfl,ak,rfl⟩
 refine ⟨_,E2,?_⟩
 unfold Dz at o
 split at o
 · rename_i es hga
   split at o
   · rename_i him
     split at o
     · rename_i ρ' hf
       rw [hga]
       intro us H3 e3 r3
       obtain ⟨v,rfl,rv⟩:=bD r3
       obtain ⟨c,ws,rfl,h1,h2⟩:=rv.lstE
       refine ⟨c,ws,rfl,.inl (SqL.of h1),fun l hl=>?_⟩
       have hpl':H3 p=some (.lst []):=e3 _ _ ak
       have hne:p≠l:=fun w=>by rw [w,hl] at hpl'; cases hpl'
       have up:Same H1 (fun c=>if c=p then none else H3 c):=fun c u q=>by
        have h1:=am q hp
        simp only [h1,if_false]
        exact e3 c u (by rw [al h1]; exact q)
       refine ⟨fun c=>if c=p then none else H3 c,p,l,_,⟨fun c h1 h2=>?_,?_,?_,hne,?_,?_,?_,fun j d j1 j2 hj=>?_,⟨[],[],?_,?_,rfl⟩,⟨es,ws,?_,ak,?_⟩⟩,ρ',hf,fun σ' H' Hf' e' S'=>⟨ρ',S'.full,OutS.mono (((e1.trans up).trans e').trans S'.up) o⟩⟩
       · rw [al h2]; simp [h1]
       · simp
       · simp [IG hne,hl]
       · rw [s_ (IG hik),B_ hil]
       · rw [B_ (by rw [HE]; exact hkl)]
       · simp only [HE]; exact E.len
       · rw [s_ (IG j2),s_ (IG j1)] at hj
         obtain ⟨v,q1,q2⟩:=E.at' j d hj
         exact ⟨v,by rw [s_ (IG j2),s_ (IG j1)]; exact q1,Rep.mono (e1.trans up) _ _ q2⟩
       · rw [s_ (IG hik),B_ (by rw [← E.len]; exact hil)]
       · rw [al hne]; exact hpl'
       · rw [B_ (by rw [HE,← E.len]; exact hkl)]
       · refine Reps.tups (fun c ys q=>?_) es ws him h2
         have:c≠p:=fun w=>by rw [w,hpl'] at q; cases q
         simp [this,q]
     · exact o.elim
   · exact o.elim
 · exact o.elim⟩
end
def gQ:Dv→Ev→Option Ev:=fun d ρ=>match d with
 | .tup [a,b,c,e]=>some (Ex [0,1,2,3] [a,b,c,e] ρ)
 | _=>none
theorem Fj (cs:List (Str×Nat)) (ρ:Ev) (d:Dv) (ρ':Ev) (h:gQ d (dv 4 cs ρ)=some ρ'):fgt [0,1,2,3] ρ'=dv 4 cs ρ:=by
 unfold gQ at h
 split at h
 · cases h
   rfl
 · cases h
theorem yq {X:Cx} {es:List Expr} {k:Nat} {pos:Pos} (hc:X.calm=true) (hg:PGs X es (AQ [0,1,2,3]))
 (hn:(Ie es X.env).length=4:=by kernel_rfl) (hst:(Ie es X.env).findIdx? (·.1)=none:=by kernel_rfl):FG X (.Tuple es k pos) gQ :=
 ⟨fun pins s σ H v u d ρ ρ' I r rd E e=>by
  unfold gQ at e
  split at e
  · cases e
    obtain ⟨ad,xs,rfl,h1,h2⟩:=rd.tupE
    refine thn (vK (n:=4) hc hg hn hst pins s σ H _ u (fun σ' H'=>H'=H∧σ'=Do [0,1,2,3] xs σ) I r ⟨ad,xs,rfl,SqT.of h1,h2.length.trans rfl,h2.length.trans rfl,rfl,rfl⟩) fun _ s' ⟨σ',H',I',e1,e2⟩=>?_
    subst e1 e2
    exact ⟨_,_,I',.refl _,Envs.setAll _ E h2⟩
  · cases e⟩
section
variable {X:Cx} {elt iter:Expr} {x y z w:Str} {px py pz pw pt pos:Pos} {ifs:List Expr} {scope:Scope} {k:Nat} {src:FnA} {tst:Option FnB} {fe:FnE} {cs:List (Str×Nat)}
theorem Fk (hi:FIG X (.Tuple [.Name x px,.Name y py,.Name z pz,.Name w pw] k pt) iter src) (helt:∀ C s H fp,FE (aj X (x :: y :: z :: w :: cs.map (·.1)) scope C s H fp) elt fe) (hifs:∀ C s H fp,pI (aj X (x :: y :: z :: w :: cs.map (·.1)) scope C s H fp) ifs tst)
 (hok:vd X.env.scope scope cs X.N=true:=by kernel_rfl) (hcl:KN scope X.env=pure (gd scope.names X.env []):=by kernel_rfl) (hc:X.calm=true:=by kernel_rfl) (hnd:ndB (x :: y :: z :: w :: cs.map (·.1))=true:=by kernel_rfl) (hl:dZ scope x=true:=by kernel_rfl) (hl2:dZ scope y=true:=by kernel_rfl) (hl3:dZ scope z=true:=by kernel_rfl) (hl4:dZ scope w=true:=by kernel_rfl)
 (hs:∀ x,Hr iter X.env x=pure x:=by intro _; kernel_rfl):FE X (.ListComp elt [⟨.Tuple [.Name x px,.Name y py,.Name z pz,.Name w pw] k pt,iter,ifs,0⟩] scope pos) (aG 4 cs src gQ tst fe) :=
 gI X.env.scope X.N [x,y,z,w] [0,1,2,3] cs rfl rfl (i5 hok) hcl hc (Fj _) hi (fun C s H fp=>yq hc
  (jw 0 (cW hnd) rfl (fgL hl).1 (fgL hl).2 (jw 1 (cW hnd) rfl (fgL hl2).1 (fgL hl2).2 (jw 2 (cW hnd) rfl (fgL hl3).1 (fgL hl3).2 (jw 3 (cW hnd) rfl (fgL hl4).1 (fgL hl4).2 AR rfl) rfl) rfl) rfl) rfl rfl) helt hifs hs
end
section
variable {X:Cx} {i k:Nat} {st:Stmt} {sts:List Stmt} {f g:FnP} {fe:FnE} {gb:FnB} {e c:Expr} {pos:Pos}
theorem yr {j:Nat} {x:Str} {pos':Pos} (he:FE X e fe) (h1:Ko j i=false:=by kernel_rfl) (h2:Ko j k=false:=by kernel_rfl) (hN:ndB X.N=true:=by kernel_rfl) (hi:X.N[j]?=some x:=by kernel_rfl) (hx:dZ X.env.scope x=true:=by kernel_rfl) (hf:X.fn x=true:=by kernel_rfl) (hs:HR e (some (.Name x pos')) pos.line X.env=pure false:=by kernel_rfl) :
 FP X i k (.Assign [.Name x pos'] e pos) (zn j fe):=BS j (HH h1) (HH h2) (cW hN) hi (cq hx) he hs (.inl hf)
theorem vk {iter e6:Expr} {src:FnA} {p1 p2 p3 py pos':Pos} {p q:Nat} {x y:Str} (hp:Li (p_ X.prog X.w) X.A X.env X.xe) (hi:FI X (.Name y py) iter src) (ht:FT X c gb) (he:FE X e6 fe)
 (h1:Ko p i=false:=by kernel_rfl) (h2:Ko p k=false:=by kernel_rfl) (h3:Ko q i=false:=by kernel_rfl) (h4:Ko q k=false:=by kernel_rfl) (hc:X.calm=true:=by kernel_rfl) (hN:ndB X.N=true:=by kernel_rfl) (hiy:X.N[p]?=some y:=by kernel_rfl) (hly:dZ X.env.scope y=true:=by kernel_rfl) (hfy:X.fn y=true:=by kernel_rfl)
 (hix:X.N[q]?=some x:=by kernel_rfl) (hlx:dZ X.env.scope x=true:=by kernel_rfl) (hfx:X.fn x=true:=by kernel_rfl) (hs:HR e6 (some (.Name x pos')) p1.line X.env=pure false:=by kernel_rfl) (hsf:∀ x,Hr iter X.env x=pure x:=by intro _; kernel_rfl) :
 FP X i k (.For (.Name y py) iter [.If c [.Assign [.Name x pos'] e6 p1] [] p2] [] p3) (lZ src gb fe p q) :=
 yo p q (HH h1) (HH h2) (HH h3) (HH h4) hp hc hi (dw (cW hN) hiy (cq hly) (.inl hfy)) ht (cW hN) hix (cq hlx) he hs hsf (.inl hfx)
theorem yt {x:Str} {apos cpos ap:Pos} (he:FE X e fe) (hx:PE X (.Name x apos) (tL i)) (hik:Ko i k=false:=by kernel_rfl)
 (hbase:IU (.Name x apos) "append" X.env (eval (.Name x apos) X.env)=eval (.Name x apos) X.env:=by kernel_rfl)
 (hfew:((Ho cpos (f_ [e] X.env)).all (fun x=>!x.1) && (Jn cpos (Io [] X.env)).all (fun x=>x.1.isSome)
   && decide ([e].length + ([]:List Jc).length + (if ([]:List Jc).isEmpty then 0 else 1) < 30))=true:=by kernel_rfl)
 (hline:(ap.endLine == cpos.line)=true:=by kernel_rfl) (hs:f_ [e] X.env=(false,eval e X.env) :: f_ [] X.env:=by kernel_rfl) (hplain:(Ho cpos (f_ [] X.env)).any (·.1)=false:=by kernel_rfl)
 (hsw:HR (.Call (.Attribute (.Name x apos) "append" ap) [e] [] cpos) none pos.line X.env=pure false:=by kernel_rfl) :
 FP X i k (.Expr (.Call (.Attribute (.Name x apos) "append" ap) [e] [] cpos) pos) (ym i fe):=BU (HH hik) hx he hbase hfew hline hs hplain hsw
theorem yu {x:Str} {apos cpos ap:Pos} (he:FE X e fe) (hx:PE X (.Name x apos) (tL k)) (hik:Ko i k=false:=by kernel_rfl)
 (hbase:IU (.Name x apos) "remove" X.env (eval (.Name x apos) X.env)=eval (.Name x apos) X.env:=by kernel_rfl)
 (hfew:((Ho cpos (f_ [e] X.env)).all (fun x=>!x.1) && (Jn cpos (Io [] X.env)).all (fun x=>x.1.isSome)
   && decide ([e].length + ([]:List Jc).length + (if ([]:List Jc).isEmpty then 0 else 1) < 30))=true:=by kernel_rfl)
 (hline:(ap.endLine == cpos.line)=true:=by kernel_rfl) (hs:f_ [e] X.env=(false,eval e X.env) :: f_ [] X.env:=by kernel_rfl) (hplain:(Ho cpos (f_ [] X.env)).any (·.1)=false:=by kernel_rfl)
 (hsw:HR (.Call (.Attribute (.Name x apos) "remove" ap) [e] [] cpos) none pos.line X.env=pure false:=by kernel_rfl) :
 FP X i k (.Expr (.Call (.Attribute (.Name x apos) "remove" ap) [e] [] cpos) pos) (zo k fe):=BV (HH hik) hx he hbase hfew hline hs hplain hsw
theorem vm {x y:Str} {p1 p2 p3 p4 p5 p6 p7:Pos} {ga:FnA} {gs:FnS} (hm:X.mg "list"=none) (ha:FA X [e] ga) (hw:FP X i k st f) (hr:FSs X sts gs)
 (hg:X.env.kindOf (a_ "list")=some .globalImplicit:=by kernel_rfl) (hik:Ko i k=false:=by kernel_rfl) (hN:ndB X.N=true:=by kernel_rfl) (hi:X.N[i]?=some x:=by kernel_rfl) (hk:X.N[k]?=some y:=by kernel_rfl) (hx:dZ X.env.scope x=true:=by kernel_rfl) (hy:dZ X.env.scope y=true:=by kernel_rfl)
 (he:f_ [e] X.env=[(false,eval e X.env)]:=by kernel_rfl) (hpl:(Ho p6 (f_ [] X.env)).any (·.1)=false:=by kernel_rfl)
 (hs1:HR (.List [] p2) (some (.Name x p1)) p3.line X.env=pure false:=by kernel_rfl) (hs2:HR (.Call (.Name "list" p5) [e] [] p6) (some (.Name y p4)) p7.line X.env=pure false:=by kernel_rfl)
 (hf1:X.fn x=true:=by kernel_rfl) (hf2:X.fn y=true:=by kernel_rfl) :
 FSs X (.Assign [.Name x p1] (.List [] p2) p3 :: .Assign [.Name y p4] (.Call (.Name "list" p5) [e] [] p6) p7 :: st :: sts) (Dz i k ga f gs) :=
 yp (HH hik) (cW hN) hi hk (cq hx) (cq hy) (glb hg) hm ha hw hr he hpl hs1 hs2 (.inl hf1) (.inl hf2)
end
theorem bY {α:Type} {p:α→Bool} {l:List α} (h:l.all p=true) {x:α} (hx:x∈l):p x=true:=HV.mp h x hx
end FD
namespace G
open PySem PySem.Spec PyProof.Rows L2 FD
def top (i:Nat):Stmt:=PySem.Challenge.pw_notejar_k60_room.main.body.getD i (.Pass ⟨0,0,0,0⟩)
section
variable {X:Cx} {a b c o e:Expr} {es:List Expr} {fa fb fc fo:FnE} {ga:FnA} {pos p pt apos cpos:Pos}
theorem BW (ha:FE X a fa) (hb:FE X b fb):FE X (.BinOp a .Add b pos) (f2 ef fa fb):=lH o_add Aq ha hb
theorem BX (ha:FE X a fa) (hb:FE X b fb):FE X (.BinOp a .Add b pos) (f2 ci fa fb):=lH Bc Bd ha hb
theorem BY (ha:FE X a fa) (hb:FE X b fb):FE X (.BinOp a .Sub b pos) (f2 ue fa fb):=lH zM Eh ha hb
theorem BZ (ha:FE X a fa) (hb:FE X b fb):FE X (.BinOp a .Mult b pos) (f2 fj fa fb):=lH vL Ar ha hb
theorem B0 (ha:FE X a fa) (hb:FE X b fb):FE X (.BinOp a .Mod b pos) (f2 eX fa fb):=lH zN Ei ha hb
theorem yw (ha:FE X a fa) (hb:FE X b fb):FE X (.BinOp a .FloorDiv b pos) (f2 fk fa fb):=lH wD As ha hb
theorem B1 (ha:FE X a fa) (hb:FE X b fb):FE X (.BinOp a .Mult b pos) (f2 zl fa fb):=lH Bv Bw ha hb
theorem B4 (hu:X.A.units + 64 < cLine) (ha:FE X a fa) (hb:FE X b fb) (hm:Hw .Eq b=false:=by kernel_rfl):FT X (.Compare a [.Eq] [b] pos) (fB (f2 eqX fa fb)):=eZ (AE hu) AF ha hb hm
theorem B5 (hu:X.A.units + 64 < cLine) (ha:FE X a fa) (hb:FE X b fb) (hm:Hw .NotEq b=false:=by kernel_rfl):FT X (.Compare a [.NotEq] [b] pos) (fB (f2 neX fa fb)):=eZ (Es hu) Et ha hb hm
theorem B6 (ha:FE X a fa) (hb:FE X b fb) (hm:Hw .Lt b=false:=by kernel_rfl):FT X (.Compare a [.Lt] [b] pos) (fB (f2 ltX fa fb)):=eZ AG AH ha hb hm
theorem B7 (ha:FE X a fa) (hb:FE X b fb) (hm:Hw .Gt b=false:=by kernel_rfl):FT X (.Compare a [.Gt] [b] pos) (fB (f2 gtD fa fb)):=eZ DU (Ek _) ha hb hm
theorem B8 (ha:FE X a fa) (hb:FE X b fb) (hm:Hw .Is b=false:=by kernel_rfl):FT X (.Compare a [.Is] [b] pos) (fB (f2 isN fa fb)):=eZ vM Au ha hb hm
theorem yx (hu:X.A.units < cLine) (ha:FE X a fa) (hb:FE X b fb) (hm:Hw .Eq b=false:=by kernel_rfl):FT X (.Compare a [.Eq] [b] pos) (fB (f2 Dj fa fb)):=eZ (Ep hu) Er ha hb hm
theorem B9 (hu:X.A.units + 64 < cLine) (ha:FE X a fa) (hb:FE X b fb) (hm:Hw .Lt b=false:=by kernel_rfl):FT X (.Compare a [.Lt] [b] pos) (fB (f2 ltT fa fb)):=eZ (EW hu) EY ha hb hm
theorem Ca (ha:FE X a fa) (hb:FE X b fb) (hm:Hw .In b=false:=by kernel_rfl):FT X (.Compare a [.In] [b] pos) (fB (f2 inD fa fb)):=eZ Ga Gb ha hb hm
theorem r8 (hu:X.A.units + 64 < cLine) (ha:FE X a fa) (hb:FE X b fb) (hm:Hw .NotIn b=false:=by kernel_rfl):FT X (.Compare a [.NotIn] [b] pos) (fB (f2 cH fa fb)):=eZ (uJ hu) uK ha hb hm
theorem Cb (hu:X.A.units + 64 < cLine) (ha:FE X a fa) (hb:FE X b fb) (hm:Hw .Eq b=false:=by kernel_rfl):FE X (.Compare a [.Eq] [b] pos) (f2 eqX fa fb):=iK (AE hu) AF ha hb hm
theorem Cc (ha:FE X a fa) (hb:FE X b fb) (hm:Hw .Lt b=false:=by kernel_rfl):FE X (.Compare a [.Lt] [b] pos) (f2 ltX fa fb):=iK AG AH ha hb hm
theorem Cd (ha:FE X a fa) (hb:FE X b fb) (hm:Hw .LtE b=false:=by kernel_rfl):FE X (.Compare a [.LtE] [b] pos) (f2 leX fa fb):=iK EJ EK ha hb hm
theorem Ce (ha:FE X a fa) (hb:FE X b fb) (hm:Hw .Is b=false:=by kernel_rfl):FE X (.Compare a [.Is] [b] pos) (f2 isN fa fb):=iK vM Au ha hb hm
theorem Cf (ha:FE X a fa) (hb:FE X b fb) (hm:Hw .In b=false:=by kernel_rfl):FE X (.Compare a [.In] [b] pos) (f2 inD fa fb):=iK Ga Gb ha hb hm
theorem r9 (ha:FE X a fa) (hb:FE X b fb) (hm:Hw .NotIn b=false:=by kernel_rfl):FE X (.Compare a [.NotIn] [b] pos) (f2 kl fa fb):=iK o_notIn qp ha hb hm
theorem Cg (hm:X.mg "isinstance"=none) (hn:X.mg "int"=none) (ha:FE X a fa) (hg:X.env.kindOf (a_ "isinstance")=some .globalImplicit:=by kernel_rfl) (hg2:X.env.kindOf (a_ "int")=some .globalImplicit:=by kernel_rfl) (hs1:f_ [a,.Name (a_ "int") pt] X.env=(false,eval a X.env) :: f_ [.Name (a_ "int") pt] X.env:=by kernel_rfl) (hs2:f_ [.Name (a_ "int") pt] X.env=(false,eval (.Name (a_ "int") pt) X.env) :: f_ [] X.env:=by kernel_rfl) (hpl:(Ho pos (f_ [.Name (a_ "int") pt] X.env)).any (·.1)=false:=by kernel_rfl):FE X (.Call (.Name "isinstance" p) [a,.Name (a_ "int") pt] [] pos) (f1 (dW eG) fa):=m7 (T:="int") xO Bl (by decide +kernel) (by kernel_rfl) hg hm hg2 hn ha hs1 hs2 hpl
theorem Ch (hm:X.mg "isinstance"=none) (hn:X.mg "str"=none) (ha:FE X a fa) (hg:X.env.kindOf (a_ "isinstance")=some .globalImplicit:=by kernel_rfl) (hg2:X.env.kindOf (a_ "str")=some .globalImplicit:=by kernel_rfl) (hs1:f_ [a,.Name (a_ "str") pt] X.env=(false,eval a X.env) :: f_ [.Name (a_ "str") pt] X.env:=by kernel_rfl) (hs2:f_ [.Name (a_ "str") pt] X.env=(false,eval (.Name (a_ "str") pt) X.env) :: f_ [] X.env:=by kernel_rfl) (hpl:(Ho pos (f_ [.Name (a_ "str") pt] X.env)).any (·.1)=false:=by kernel_rfl):FE X (.Call (.Name "isinstance" p) [a,.Name (a_ "str") pt] [] pos) (f1 (dW eA) fa):=m7 (T:="str") xb AB (by decide +kernel) (by kernel_rfl) hg hm hg2 hn ha hs1 hs2 hpl
theorem vn (hm:X.mg "isinstance"=none) (hn:X.mg "tuple"=none) (ha:FE X a fa) (hg:X.env.kindOf (a_ "isinstance")=some .globalImplicit:=by kernel_rfl) (hg2:X.env.kindOf (a_ "tuple")=some .globalImplicit:=by kernel_rfl) (hs1:f_ [a,.Name (a_ "tuple") pt] X.env=(false,eval a X.env) :: f_ [.Name (a_ "tuple") pt] X.env:=by kernel_rfl) (hs2:f_ [.Name (a_ "tuple") pt] X.env=(false,eval (.Name (a_ "tuple") pt) X.env) :: f_ [] X.env:=by kernel_rfl) (hpl:(Ho pos (f_ [.Name (a_ "tuple") pt] X.env)).any (·.1)=false:=by kernel_rfl):FE X (.Call (.Name "isinstance" p) [a,.Name (a_ "tuple") pt] [] pos) (f1 (dW dq) fa):=m7 (T:="tuple") xf uj (by decide +kernel) (by kernel_rfl) hg hm hg2 hn ha hs1 hs2 hpl
theorem yy (hm:X.mg "isinstance"=none) (hn:X.mg "bool"=none) (ha:FE X a fa) (hg:X.env.kindOf (a_ "isinstance")=some .globalImplicit:=by kernel_rfl) (hg2:X.env.kindOf (a_ "bool")=some .globalImplicit:=by kernel_rfl) (hs1:f_ [a,.Name (a_ "bool") pt] X.env=(false,eval a X.env) :: f_ [.Name (a_ "bool") pt] X.env:=by kernel_rfl) (hs2:f_ [.Name (a_ "bool") pt] X.env=(false,eval (.Name (a_ "bool") pt) X.env) :: f_ [] X.env:=by kernel_rfl) (hpl:(Ho pos (f_ [.Name (a_ "bool") pt] X.env)).any (·.1)=false:=by kernel_rfl):FE X (.Call (.Name "isinstance" p) [a,.Name (a_ "bool") pt] [] pos) (f1 (dW bM) fa):=m7 (T:="bool") uh xl (by decide +kernel) (by kernel_rfl) hg hm hg2 hn ha hs1 hs2 hpl
theorem jI (ho:FE X o fo) (ha:FA X (e :: es) ga) (h:SmL X o "startswith" e es apos cpos:=by exact ⟨by kernel_rfl,by kernel_rfl,by kernel_rfl,by kernel_rfl,by kernel_rfl⟩):FE X (.Call (.Attribute o "startswith" apos) (e :: es) [] cpos) (fM (ui KO) fo ga):=lY PySem.F.slot_str_startswith PySem.F.type_str_startswith Em vU ho ha h
theorem l4 (ho:FE X o fo) (ha:FA X (e :: es) ga) (h:SmL X o "endswith" e es apos cpos:=by exact ⟨by kernel_rfl,by kernel_rfl,by kernel_rfl,by kernel_rfl,by kernel_rfl⟩):FE X (.Call (.Attribute o "endswith" apos) (e :: es) [] cpos) (fM (ui OC) fo ga):=lY PySem.F.slot_str_endswith PySem.F.type_str_endswith Eo vU ho ha h
theorem vo (ho:FE X o fo) (ha:FA X (e :: es) ga) (h:SmL X o "split" e es apos cpos:=by exact ⟨by kernel_rfl,by kernel_rfl,by kernel_rfl,by kernel_rfl,by kernel_rfl⟩):FE X (.Call (.Attribute o "split" apos) (e :: es) [] cpos) (fM (iP) fo ga):=lY Ll PySem.F.type_str_split ul xn ho ha h
theorem yz (ho:FE X o fo) (ha:FA X (e :: es) ga) (h:SmL X o "join" e es apos cpos:=by exact ⟨by kernel_rfl,by kernel_rfl,by kernel_rfl,by kernel_rfl,by kernel_rfl⟩):FE X (.Call (.Attribute o "join" apos) (e :: es) [] cpos) (fM (qr) fo ga):=lY PySem.F.slot_str_join PySem.F.type_str_join xo AJ ho ha h
theorem k6 (ho:FE X o fo) (ha:FA X (e :: es) ga) (h:SmL X o "partition" e es apos cpos:=by exact ⟨by kernel_rfl,by kernel_rfl,by kernel_rfl,by kernel_rfl,by kernel_rfl⟩):FE X (.Call (.Attribute o "partition" apos) (e :: es) [] cpos) (fM (um) fo ga):=lY MX PySem.F.type_str_partition xp AM ho ha h
theorem yA (ho:FE X o fo) (ha:FA X (e :: es) ga) (h:SmL X o "find" e es apos cpos:=by exact ⟨by kernel_rfl,by kernel_rfl,by kernel_rfl,by kernel_rfl,by kernel_rfl⟩):FE X (.Call (.Attribute o "find" apos) (e :: es) [] cpos) (fM (Di Txt.find) fo ga):=lY PySem.F.slot_str_find PySem.F.type_str_find xh AA ho ha h
theorem Ci (ho:FE X o fo) (ha:FA X (e :: es) ga) (h:SmL X o "index" e es apos cpos:=by exact ⟨by kernel_rfl,by kernel_rfl,by kernel_rfl,by kernel_rfl,by kernel_rfl⟩):FE X (.Call (.Attribute o "index" apos) (e :: es) [] cpos) (fM Dt fo ga):=lY PySem.F.slot_str_index PySem.F.type_str_index Bf EF ho ha h
end
local macro_rules | `(tactic| walk_at "x")=>`(tactic| (first
 | with_reducible exact iL
 | with_reducible refine gU ?_ ?_
 | with_reducible exact Ea _ (by kernel_rfl) (by kernel_rfl!)
 | with_reducible exact Eb _ (by kernel_rfl) (by kernel_rfl!)
 | with_reducible exact z6
 | with_reducible exact z8
 | with_reducible exact Ec
 | with_reducible exact z7
 | with_reducible exact E6 (by with_unfolding_all assumption) (by kernel_rfl!)
 | with_reducible exact E7 (by with_unfolding_all assumption) (by kernel_rfl!)
 | with_reducible refine BP ?_ ?_
 | with_reducible refine Aj ?_
 | with_reducible refine Ai ?_
 | with_reducible refine vb (by with_unfolding_all assumption) (by with_unfolding_all assumption) (by kernel_rfl!) ?_
 | with_reducible refine rW (by with_unfolding_all assumption) (by with_unfolding_all assumption) (by kernel_rfl!) (by kernel_rfl) ?_
 | with_reducible refine rX (by with_unfolding_all assumption) (by with_unfolding_all (first | assumption | exact RoomM.of (by assumption) | exact yj (by assumption))) (by kernel_rfl!) ?_
 | with_reducible refine Ad ?_
 | with_reducible refine Ae ?_ ?_
 | with_reducible refine Ed ?_ ?_
 | with_reducible refine Ag ?_
 | with_reducible refine At ?_
 | with_reducible refine Ee ?_ ?_ ?_
 | with_reducible refine BW ?_ ?_
 | with_reducible refine BX ?_ ?_
 | with_reducible refine BY ?_ ?_
 | with_reducible refine BZ ?_ ?_
 | with_reducible refine B0 ?_ ?_
 | with_reducible refine yw ?_ ?_
 | with_reducible refine B1 ?_ ?_
 | with_reducible refine B4 ?_ ?_ ?_
 | with_reducible refine B5 ?_ ?_ ?_
 | with_reducible refine B6 ?_ ?_
 | with_reducible refine B7 ?_ ?_
 | with_reducible refine B8 ?_ ?_
 | with_reducible refine yx ?_ ?_ ?_
 | with_reducible refine B9 ?_ ?_ ?_
 | with_reducible refine Ca ?_ ?_
 | with_reducible refine r8 ?_ ?_ ?_
 | with_reducible refine Cb ?_ ?_ ?_
 | with_reducible refine Cc ?_ ?_
 | with_reducible refine Cd ?_ ?_
 | with_reducible refine Ce ?_ ?_
 | with_reducible refine Cf ?_ ?_
 | with_reducible refine r9 ?_ ?_
 | with_reducible refine FW.ft (vO ?_ ?_)
 | with_reducible refine FW.ft (Ab ?_ ?_)
 | with_reducible refine vO ?_ ?_
 | with_reducible refine Ab ?_ ?_
 | with_reducible refine wR ?_
 | with_reducible refine Aa ?_
 | with_reducible refine Ac ?_
 | with_reducible refine z9 ?_
 | with_reducible refine Av ?_ ?_ ?_
 | with_reducible refine xD ?_ ?_ ?_
 | with_reducible exact w6
 | with_reducible refine w8 ?_
 | with_reducible refine Fa ?_ ?_ ?_
 | with_reducible refine Fb ?_ ?_ ?_
 | with_reducible refine Fe ?_ ?_ ?_
 | with_reducible refine Fk ?_ ?_ ?_
 | with_reducible exact ve
 | with_reducible refine vf ?_
 | with_reducible intro _ _ _ _
 | with_reducible refine q9 ?_ (by kernel_rfl) (glb (by kernel_rfl)) ?_ (glb (by kernel_rfl)) ?_ ?_
 | with_reducible refine oY (by kernel_rfl) (glb (by kernel_rfl)) ?_ (glb (by kernel_rfl)) ?_ ?_
 | with_reducible refine rY (by with_unfolding_all assumption) (by with_unfolding_all assumption) (by with_unfolding_all assumption) (by kernel_rfl!) ?_
 | with_reducible refine Ax (glb (by kernel_rfl)) ?_ ?_
 | with_reducible refine uo (glb (by kernel_rfl)) ?_ ?_
 | with_reducible refine xE (glb (by kernel_rfl)) ?_ ?_
 | with_reducible refine Ay (by kernel_rfl) (glb (by kernel_rfl)) ?_ ?_
 | with_reducible refine Bm (by kernel_rfl) (glb (by kernel_rfl)) ?_ ?_
 | with_reducible refine Cg ?_ ?_ ?_
 | with_reducible refine Ch ?_ ?_ ?_
 | with_reducible refine vn ?_ ?_ ?_
 | with_reducible refine yy ?_ ?_ ?_
 | with_reducible refine jI ?_ ?_
 | with_reducible refine l4 ?_ ?_
 | with_reducible refine vo ?_ ?_
 | with_reducible refine yz ?_ ?_
 | with_reducible refine k6 ?_ ?_
 | with_reducible refine yA ?_ ?_
 | with_reducible refine Ci ?_ ?_
 | with_reducible refine uD ?_ ?_
 | with_reducible refine ur ?_ ?_
 | with_reducible refine AX (T:="ValueError") (by with_unfolding_all exact XAllS.xtV (by assumption)) jC (by decide +kernel) (by kernel_rfl) (glb (by kernel_rfl)) ?_ (glb (by kernel_rfl)) ?_ ?_
 | with_reducible refine AW (by with_unfolding_all exact XAllS.xtO (by assumption) _ (by decide)) (by with_unfolding_all exact CA.c (by assumption) (by decide) rfl) (glb (by kernel_rfl)) (by kernel_rfl) (glb (by kernel_rfl)) ?_ ?_
 | with_reducible refine qk (glb (by kernel_rfl)) ?_ ?_
 | with_reducible refine ql (glb (by kernel_rfl)) ?_ ?_
 | with_reducible refine An ?_
 | with_reducible refine xW (glb (by kernel_rfl)) ?_ ?_
 | with_reducible refine uu (glb (by kernel_rfl)) ?_ ?_
 | with_reducible refine FI.toG ?_
 | with_reducible exact wS
 | with_reducible refine vm ?_ ?_ ?_ ?_
 | with_reducible refine lJ ?_
 | with_reducible refine vg ?_ ?_
 | with_reducible refine ub ?_ ?_
 | with_reducible refine yn ?_
 | with_reducible refine vi ?_ ?_
 | with_reducible refine vj _ ?_ ?_ ?_
 | with_reducible refine yr ?_
 | with_reducible refine vk ?_ ?_ ?_ ?_
 | with_reducible refine yt ?_ (lX (by kernel_rfl) (by kernel_rfl) (by kernel_rfl) (by kernel_rfl))
 | with_reducible refine yu ?_ (lX (by kernel_rfl) (by kernel_rfl) (by kernel_rfl) (by kernel_rfl))
 | with_reducible refine qi ?_
 | with_reducible refine Ef ?_ ?_ ?_
 | with_reducible refine wT ?_
 | with_reducible refine Fd ?_ ?_ ?_ (by kernel_rfl!)
 | with_reducible refine Ff ?_ ?_ ?_ (by kernel_rfl!)
 | with_reducible refine yd ?_
 | with_reducible refine yf ?_ ?_ ?_
 | with_reducible refine ux _ (by with_unfolding_all exact XAllS.xc (by assumption) _ (by decide)) (by kernel_rfl) (by with_unfolding_all exact CA.c (by assumption) (by decide) rfl) (by kernel_rfl) (by kernel_rfl) (glb (by kernel_rfl)) ?_
 | with_reducible refine AZ _ _ _ (by kernel_rfl) (by kernel_rfl) (by kernel_rfl) (glb (by kernel_rfl)) (by with_unfolding_all exact CA.j (by assumption)) (by with_unfolding_all exact XAllS.exJ (by assumption)) (by with_unfolding_all exact CA.xk (by assumption)) (cW (by kernel_rfl)) (by kernel_rfl) (by kernel_rfl) (by kernel_rfl) ?_ ?_
 | with_reducible intro _ _
 | with_reducible exact xK
 | with_reducible refine xL ?_
 | with_reducible refine uL ?_ ?_
 | with_reducible refine Bi ?_
 | with_reducible refine Bh ?_ ?_ ?_
 | with_reducible refine yh ?_ (lX (by kernel_rfl) (by kernel_rfl) (by kernel_rfl) (by kernel_rfl))
 | with_reducible refine ye ?_
 | with_reducible refine yg ?_ ?_ ?_
 | assumption
 | exact MA.no (by assumption) (by kernel_rfl)
 | exact Room.units (by assumption)
 | exact RoomM.units (by assumption)
 | exact Room.units0 (by assumption)
 | exact PassesOwn.never) <;> walk_at "x")
local macro_rules | `(tactic| walk_at "b")=>`(tactic| (intros; (conv=>arg 2; whnf); walk_at "x"))
local macro_rules | `(tactic| walk_at "d")=>`(tactic| (intro _ _ _ _ _ _ us hl; rcases us with _ | ⟨_,_ | ⟨_,_ | ⟨_,_ | ⟨_,_ | ⟨_,_ | ⟨_,_ | ⟨_,_ | ⟨_,us⟩⟩⟩⟩⟩⟩⟩⟩ <;> first | rfl | cases hl))
def CC:BN:=[cN "ValueError",cN "all",cN "bool",cN "enumerate",cN "int",cN "isinstance",cN "len",cN "list",cN "max",cN "range",cN "set",cN "sorted",cN "str",cN "tuple",cS "FIGURES" "0123456789",cS "LABEL_SIGNS" "abcdefghijklmnopqrstuvwxyz0123456789-",cI "LARGEST_ROOM" 20,cI "LAST_MOMENT" 9999,cI "LONGEST_LABEL" 8,cI "LONGEST_NOTE_NAME" 10,cI "LONGEST_PATH" 20,cI "LONGEST_WORTH" 12,cI "MOST_LABELS" 5,cI "MOST_NOTES" 20,cI "MOST_RULES" 8,cI "NOTE_ENDS" 5,cI "NOTE_EXACT" 3,cI "NOTE_HOUSE" 2,cI "NOTE_MADE" 8,cI "NOTE_NAME" 0,cS "NOTE_NAME_SIGNS" "abcdefghijklmnopqrstuvwxyzABCDEFGHIJKLMNOPQRSTUVWXYZ0123456789-_",cI "NOTE_PARTS" 10,cI "NOTE_PATH" 4,cI "NOTE_REACH" 7,cI "NOTE_SAFE" 6,cI "NOTE_USED" 9,cI "NOTE_WORTH" 1,cS "NO_WORTH_SIGNS" ";,=",cS "PATH_SIGNS" "abcdefghijklmnopqrstuvwxyz0123456789-_./"]
section
variable {P:Program} {w:D_} {K:ck} {mg:Str→Option Value} {base h:Heap} {f:Addr} {cls:Nat→Addr} {CJ:Addr} (XI:K.In h) (Gn:h.Ns C_ mg) (M:MA mg CC) (xa:XAllS K [0,1,2,3,4,5,6] cls CJ) (ca:CA K mg cls CJ [0,1,2,3,4,5,6] 7)
include XI Gn M xa ca
def T0:bQ:=[]
def TE0:bQ:=[]
def TM0:bQ:=[]
def cr:FnS:=(aE (bP (fB (f2 Dj (ac 0) (cM ah))) (aI (f2 fj (fC (.int 7)) (ac 1))) (fun ρ=>some (.nx ρ))) (aI (f2 ef (f2 ixD (ac 0) (f2 eX (ac 1) (fB1 dj (aa (ac 0) ah)))) (f2 fj (fC (.int 6553)) (f2 fk (ac 1) (fB1 dj (aa (ac 0) ah)))))))
def bw:List Dv→Option (Rs Dv):=bg 2 cr
def T1:bQ:=("_law_cell",1,["_law_script","_law_k"],bw) :: T0
theorem k7 (A:Af K "_law_cell" (top 76) f) (t:HA P w K mg base T0):HA P w K mg base T1 :=
 aw (aC XI Gn ["_law_script","_law_k"] ["_law_script","_law_k"] cr A (by walk_at "d") (by delta cr; walk_at "b")) t
def bB:FnS:=(aE (bn 3 (f2 eX (f2 ef (f2 fj (f2 eX (ai bw 2 (aa (ac 0) (aa (ac 1) ah))) (fC (.int 2147483563))) (fC (.int 69069))) (f2 fj (fC (.int 104723)) (f2 ef (ac 1) (fC (.int 1))))) (fC (.int 2147483563)))) (aE (bn 3 (f2 eX (f2 ef (f2 fj (ac 3) (ac 3)) (f2 fk (ac 3) (fC (.int 3)))) (fC (.int 2147483399)))) (aI (f2 eX (f2 fk (f2 eX (f2 ef (f2 fj (ac 3) (ac 3)) (f2 fk (ac 3) (fC (.int 7)))) (fC (.int 2147483647))) (fC (.int 11))) (ac 2)))))
def ag:List Dv→Option (Rs Dv):=bg 4 bB
def T2:bQ:=("_law_drawn",2,["_law_script","_law_k","_law_many"],ag) :: T1
theorem jJ (A:Af K "_law_drawn" (top 77) f) (t:HA P w K mg base T1):HA P w K mg base T2 :=
 aw (aC XI Gn ["_law_script","_law_k","_law_many","_law_cell_here"] ["_law_script","_law_k","_law_many"] bB A (by walk_at "d") (by delta bB; walk_at "b")) t
def aK:FnB:=(fB (f2 ltT (cD (aa (f2 ixD (f2 ixD (ac 1) (ac 6)) (fC (.int 6))) (aa (f2 ixD (f2 ixD (ac 1) (ac 6)) (fC (.int 9))) (aa (ac 6) ah)))) (cD (aa (f2 ixD (f2 ixD (ac 1) (ac 5)) (fC (.int 6))) (aa (f2 ixD (f2 ixD (ac 1) (ac 5)) (fC (.int 9))) (aa (ac 5) ah))))))
def aS:FnP:=(zm (zn 5 (f2 ixD (ac 4) (fC (.int 0)))) (zm (lZ (bZ (ac 4)) aK (ac 6) 6 5) (zm (ym 3 (ac 5)) (zo 4 (ac 5)))))
def br:FnS:=(Dz 3 4 (aa (ac 0) ah) (pWh (fB (f2 gtD (fB1 dj (aa (ac 4) ah)) (ac 2))) aS 30) (aI (ac 3)))
def bt:List Dv→Option (Rs Dv):=bg 7 br
def T3:bQ:=("_law_dropped",1,["_law_places","_law_jar_here","_law_most"],bt) :: T2
theorem ii (A:Af K "_law_dropped" (top 90) f) (t:HA P w K mg base T2):HA P w K mg base T3 :=
 aw (aC XI Gn ["_law_places","_law_jar_here","_law_most","_law_gone","_law_left","_law_first","_law_at"] ["_law_places","_law_jar_here","_law_most"] br A (by walk_at "d") (by delta br aK aS; walk_at "b")) t
def eI:FnS:=(aE (bn 1 (fM (iP) (ac 0) (aa (fC (.str ".")) ah))) (aI (bh [("_law_parts",1)] (fun ρ=>bnd ((aa (fB1 dj (aa (ac 1) ah)) ah) ρ) gy) none (fM (qr) (fC (.str ".")) (aa (vT (ac 1) (gm (ac 0)) ju) ah)))))
def eL:List Dv→Option (Rs Dv):=bg 2 eI
def T4:bQ:=("_law_ends",1,["_law_name_here"],eL) :: T3
theorem k8 (A:Af K "_law_ends" (top 82) f) (t:HA P w K mg base T3):HA P w K mg base T4 :=
 aw (aC XI Gn ["_law_name_here","_law_parts"] ["_law_name_here"] eI A (by walk_at "d") (by delta eI; walk_at "b")) t
def eN:FnS:=(aE (bn 2 (ai eL 1 (aa (ac 1) ah))) (aE (bn 3 (aG 1 [("_law_table_here",0)] (bZ (ac 2)) (gN 0) (some (fB (f2 inD (f2 ef (fC (.str "!")) (ac 0)) (ac 1)))) (ac 0))) (aE (bP (fB (f2 neX (ac 3) (cM ah))) (aI (vT (f2 ixD (ac 3) (fC (.int 0))) (gm (f2 ef (fM Dt (f2 ixD (ac 3) (fC (.int 0))) (aa (fC (.str ".")) ah)) (fC (.int 1)))) ju)) (fun ρ=>some (.nx ρ))) (aE (bn 4 (aG 1 [("_law_table_here",0)] (bZ (ac 2)) (gN 0) (some (bOr (fB (f2 inD (ac 0) (ac 1))) (qh (fB (f2 inD (f2 ef (fC (.str "*")) (vT (ac 0) (gm (fM (Di Txt.find) (ac 0) (aa (fC (.str ".")) ah))) ju)) (ac 1))) (fB (f2 inD (fC (.str ".")) (ac 0)))))) (ac 0))) (aI (f2 ixD (f2 ef (ac 4) (vT (ac 2) (gm (f1 wY (fC (.int 1)))) ju)) (fC (.int 0))))))))
def ij:List Dv→Option (Rs Dv):=bg 5 eN
def T5:bQ:=("_law_open",2,["_law_table_here","_law_name_here"],ij) :: T4
theorem k9 (A:Af K "_law_open" (top 83) f) (t:HA P w K mg base T4):HA P w K mg base T5 :=
 aw (aC XI Gn ["_law_table_here","_law_name_here","_law_ends_here","_law_called","_law_met"] ["_law_table_here","_law_name_here"] eN A (by walk_at "d") (by delta eN; walk_at "b")) t
def fU:FnS:=(aE (bn 2 (ai eL 1 (aa (ac 1) ah))) (aE (bn 3 (aG 1 [("_law_table_here",0),("_law_name_here",1)] (bZ (ac 2)) (gN 0) (some (fB (f2 gtD (fB1 dj (aa (ac 0) ah)) (fB1 dj (aa (ai ij 2 (aa (ac 1) (aa (ac 2) ah))) ah))))) (ac 0))) (aI (fIf (fB (f2 neX (ac 3) (cM ah))) (f2 ixD (ac 3) (f1 wY (fC (.int 1)))) (fC .non)))))
def dO:List Dv→Option (Rs Dv):=bg 4 fU
def T6:bQ:=("_law_own",3,["_law_table_here","_law_name_here"],dO) :: T5
theorem l7 (A:Af K "_law_own" (top 84) f) (t:HA P w K mg base T5):HA P w K mg base T6 :=
 aw (aC XI Gn ["_law_table_here","_law_name_here","_law_ends_here","_law_longer"] ["_law_table_here","_law_name_here"] fU A (by walk_at "d") (by delta fU; walk_at "b")) t
def bS:FnS:=(aE (bn 2 (ai dO 2 (aa (ac 0) (aa (f2 ixD (ac 1) (fC (.int 2))) ah)))) (aI (fIf (fB (f2 isN (ac 2) (fC .non))) (f2 ixD (ac 1) (fC (.int 2))) (ac 2))))
def aD:List Dv→Option (Rs Dv):=bg 3 bS
def T7:bQ:=("_law_group",4,["_law_table_here","_law_note"],aD) :: T6
theorem jK (A:Af K "_law_group" (top 89) f) (t:HA P w K mg base T6):HA P w K mg base T7 :=
 aw (aC XI Gn ["_law_table_here","_law_note","_law_own_here"] ["_law_table_here","_law_note"] bS A (by walk_at "d") (by delta bS; walk_at "b")) t
def aP:FnS:=(aE (bn 6 (aG 2 [("_law_table_here",0),("_law_name_here",5)] (fun ρ=>bnd ((aa (ac 1) ah) ρ) jF) (gP 0 1) (some (fB (f2 eqX (ai aD 2 (aa (ac 2) (aa (ac 1) ah))) (ac 3)))) (ac 0))) (bn 4 (f2 ci (ac 4) (ai bt 3 (aa (ac 6) (aa (ac 1) (aa (ac 2) ah)))))))
def bE:FnS:=(aE (bn 4 (cM ah)) (aE (oP 5 [5,6] (bZ (fB1 cO (aa (bh [("_law_table_here",0)] (bZ (ac 1)) none (ai aD 2 (aa (ac 1) (aa (ac 0) ah)))) ah))) aP) (aE (bn 7 (aG 1 [("_law_gone",4)] (fun ρ=>bnd ((aa (fB1 dj (aa (ac 1) ah)) ah) ρ) gy) (gN 0) (some (fB (f2 cH (ac 0) (ac 1)))) (ac 0))) (aE (bn 4 (f2 ci (ac 4) (ai bt 3 (aa (ac 7) (aa (ac 1) (aa (ac 3) ah)))))) (aI (fB1 ei (aa (aG 2 [("_law_gone",4)] (fun ρ=>bnd ((aa (ac 1) ah) ρ) jF) (gP 0 1) (some (fB (f2 cH (ac 0) (ac 2)))) (ac 1)) ah)))))))
def bF:List Dv→Option (Rs Dv):=bg 8 bE
def T8:bQ:=("_law_fitted",5,["_law_table_here","_law_jar_here","_law_each","_law_most"],bF) :: T7
theorem iH (A:Af K "_law_fitted" (top 91) f) (t:HA P w K mg base T7):HA P w K mg base T8 :=
 aw (aC XI Gn ["_law_table_here","_law_jar_here","_law_each","_law_most","_law_gone","_law_name_here","_law_places","_law_rest"] ["_law_table_here","_law_jar_here","_law_each","_law_most"] bE A (by walk_at "d") (by delta bE aP; walk_at "b")) t
def eP:FnS:=(aE (bn 2 (cM (aa (fC (.str "a.b")) (aa (fC (.str "b")) (aa (fC (.str "x.a.b")) (aa (fC (.str "y.x.a.b")) (aa (fC (.str "c.uk")) (aa (fC (.str "uk")) (aa (fC (.str "d.c.uk")) (aa (fC (.str "e.d.c.uk")) ah)))))))))) (aE (bn 2 (f2 ef (ac 2) (cM (aa (fC (.str "w.ck")) (aa (fC (.str "v.w.ck")) (aa (fC (.str "ck")) (aa (fC (.str "g-1.a.b")) (aa (fC (.str "7.b")) (aa (fC (.str "p.q")) ah))))))))) (aI (f2 ixD (ac 2) (ai ag 3 (aa (ac 0) (aa (ac 1) (aa (fB1 dj (aa (ac 2) ah)) ah))))))))
def cu:List Dv→Option (Rs Dv):=bg 3 eP
def T9:bQ:=("_law_name",3,["_law_script","_law_at"],cu) :: T8
theorem la (A:Af K "_law_name" (top 78) f) (t:HA P w K mg base T8):HA P w K mg base T9 :=
 aw (aC XI Gn ["_law_script","_law_at","_law_some"] ["_law_script","_law_at"] eP A (by walk_at "d") (by delta eP; walk_at "b")) t
def eQ : FnS := (aE (bn 2 (cM (aa (fC (.str "/")) (aa (fC (.str "/x")) (aa (fC (.str "/x/")) (aa (fC (.str "/x/y")) (aa (fC (.str "/xy")) (aa (fC (.str "/x/y/z.q")) (aa (fC (.str "//")) (aa (fC (.str "/-_.9")) (aa (fC (.str "/x/y/")) ah))))))))))) (aI (f2 ixD (ac 2) (ai ag 3 (aa (ac 0) (aa (ac 1) (aa (fB1 dj (aa (ac 2) ah)) ah)))))))
def cw:List Dv→Option (Rs Dv):=bg 3 eQ
def T10:bQ:=("_law_path",3,["_law_script","_law_at"],cw) :: T9
theorem lb (A:Af K "_law_path" (top 80) f) (t:HA P w K mg base T9):HA P w K mg base T10 :=
 aw (aC XI Gn ["_law_script","_law_at","_law_some"] ["_law_script","_law_at"] eQ A (by walk_at "d") (by delta eQ; walk_at "b")) t
def aN:iG:=(eE (fq 6 (f2 ci (f2 ci (ac 1) (fC (.int 1))) (f2 fj (fC (.int 14)) (ac 5)))) (eE (fq 4 (f2 ci (ac 4) (ai ag 3 (aa (ac 0) (aa (ac 6) (aa (fC (.int 4)) ah)))))) (eE (fq 7 (f2 ixD (cM (aa (fC (.str "n")) (aa (fC (.str "m-1")) (aa (fC (.str "safe-a")) (aa (fC (.str "N_2")) ah))))) (ai ag 3 (aa (ac 0) (aa (f2 ci (ac 6) (fC (.int 1))) (aa (fC (.int 4)) ah)))))) (eE (fq 8 (f2 ixD (cM (aa (fC (.str "5")) (aa (fC (.str "")) (aa (fC (.str "a!b~")) ah)))) (ai ag 3 (aa (ac 0) (aa (f2 ci (ac 6) (fC (.int 2))) (aa (fC (.int 3)) ah)))))) (eE (fq 9 (f2 ixD (cM (aa (fC .non) (aa (ai ag 3 (aa (ac 0) (aa (f2 ci (ac 6) (fC (.int 7))) (aa (fC (.int 60)) ah)))) ah))) (ai ag 3 (aa (ac 0) (aa (f2 ci (ac 6) (fC (.int 6))) (aa (fC (.int 2)) ah)))))) (eE (fq 10 (f2 eqX (ai ag 3 (aa (ac 0) (aa (f2 ci (ac 6) (fC (.int 4))) (aa (fC (.int 2)) ah)))) (fC (.int 0)))) (eE (fq 11 (cD (aa (ac 7) (aa (ac 8) (aa (ai cu 2 (aa (ac 0) (aa (f2 ci (ac 6) (fC (.int 3))) ah))) (aa (ac 10) (aa (ai cw 2 (aa (ac 0) (aa (f2 ci (ac 6) (fC (.int 5))) ah))) ah))))))) (eE (fq 12 (f2 ixD (cM (aa (fC (.str "any")) (aa (fC (.str "any")) (aa (fC (.str "near")) ah)))) (ai ag 3 (aa (ac 0) (aa (f2 ci (ac 6) (fC (.int 9))) (aa (fC (.int 3)) ah)))))) (eE (fq 13 (f2 eqX (ai ag 3 (aa (ac 0) (aa (f2 ci (ac 6) (fC (.int 8))) (aa (fC (.int 2)) ah)))) (fC (.int 0)))) (eE (fq 14 (f2 ci (ac 4) (ai ag 3 (aa (ac 0) (aa (f2 ci (ac 6) (fC (.int 10))) (aa (fC (.int 5)) ah)))))) (eE (fq 15 (f2 ci (ac 11) (cD (aa (ac 9) (aa (ac 13) (aa (ac 12) (aa (ac 4) (aa (ac 14) ah)))))))) (xJ 3 (fB (f2 eqX (bh [("_law_note",15)] (bZ (ac 3)) (some (fB (f2 eqX (cD (aa (f2 ixD (ac 0) (fC (.int 0))) (aa (f2 ixD (ac 0) (fC (.int 2))) (aa (f2 ixD (ac 0) (fC (.int 4))) ah)))) (cD (aa (f2 ixD (ac 1) (fC (.int 0))) (aa (f2 ixD (ac 1) (fC (.int 2))) (aa (f2 ixD (ac 1) (fC (.int 4))) ah))))))) (ac 0)) (cM ah))) (zj (ac 15)) Du))))))))))))
def fV:FnS:=(zk 3 ah (eE (fq 4 (fC (.int 0))) (eE (xN 5 [5,6,7,8,9,10,11,12,13,14,15] (fun ρ=>bnd ((aa (ai ag 3 (aa (ac 0) (aa (ac 1) (aa (f2 ci (ac 2) (fC (.int 1))) ah)))) ah) ρ) gy) aN) (zi 3 (fB1 ei (aa (ac 3) ah))))))
def dP:List Dv→Option (Rs Dv):=bg 16 fV
def T11:bQ:=("_law_jar",4,["_law_script","_law_at","_law_many"],dP) :: T10
theorem l8 (A:Af K "_law_jar" (top 88) f) (t:HA P w K mg base T10):HA P w K mg base T11 :=
 aw (aC XI Gn ["_law_script","_law_at","_law_many","_law_found","_law_now","_law_k","_law_here","_law_name_here","_law_worth","_law_ends_here","_law_exact","_law_head","_law_reach","_law_safe","_law_late","_law_note"] ["_law_script","_law_at","_law_many"] fV A (by walk_at "d") (by delta fV aN; walk_at "b")) t
def dD:FnS:=(aE (bn 2 (cM (aa (fC (.str "!w.ck")) (aa (fC (.str "*.ck")) (aa (fC (.str "*.uk")) (aa (fC (.str "a.b")) (aa (fC (.str "b")) (aa (fC (.str "c.uk")) (aa (fC (.str "q")) (aa (fC (.str "uk")) ah)))))))))) (aI (fB1 ei (aa (aG 2 [("_law_script",0),("_law_at",1)] (fun ρ=>bnd ((aa (ac 2) ah) ρ) ut) (gP 0 1) (some (fB (f2 eqX (ai ag 3 (aa (ac 2) (aa (f2 ef (ac 3) (ac 0)) (aa (fC (.int 2)) ah)))) (fC (.int 0))))) (ac 1)) ah))))
def bU:List Dv→Option (Rs Dv):=bg 3 dD
def T12:bQ:=("_law_table",3,["_law_script","_law_at"],bU) :: T11
theorem jL (A:Af K "_law_table" (top 79) f) (t:HA P w K mg base T11):HA P w K mg base T12 :=
 aw (aC XI Gn ["_law_script","_law_at","_law_some"] ["_law_script","_law_at"] dD A (by walk_at "d") (by delta dD; walk_at "b")) t
def cx:FnS:=(aE (bn 1 (cM (aa (f1 (isX (fun c=>if ([0,1,2,3,4,5,6]:List Nat).contains c then some (c == 0) else none)) (ac 0)) (aa (f1 (isX (fun c=>if ([0,1,2,3,4,5,6]:List Nat).contains c then some (c == 1) else none)) (ac 0)) (aa (f1 (isX (fun c=>if ([0,1,2,3,4,5,6]:List Nat).contains c then some (c == 2) else none)) (ac 0)) ah))))) (aE (bn 1 (f2 ef (ac 1) (cM (aa (f1 (isX (fun c=>if ([0,1,2,3,4,5,6]:List Nat).contains c then some (c == 3) else none)) (ac 0)) (aa (f1 (isX (fun c=>if ([0,1,2,3,4,5,6]:List Nat).contains c then some (c == 4) else none)) (ac 0)) (aa (f1 (isX (fun c=>if ([0,1,2,3,4,5,6]:List Nat).contains c then some (c == 5) else none)) (ac 0)) ah)))))) (aE (bn 1 (f2 ef (ac 1) (cM (aa (f1 (isX (fun c=>if ([0,1,2,3,4,5,6]:List Nat).contains c then some (c == 6) else none)) (ac 0)) ah)))) (aE (bP (bOr (fB (f2 neX (fML zg (ac 1) (aa (fC (.bl true)) ah)) (fC (.int 1)))) (di (fB (f1 (isX (fun c=>if ([0,1,2,3,4,5,6]:List Nat).contains c then some true else none)) (ac 0))))) (aI (cD (aa (fC (.str "refused")) (aa (f1 wY (fC (.int 1))) ah)))) (fun ρ=>some (.nx ρ))) (aI (cD (aa (fC (.str "refused")) (aa (fML Dl (ac 1) (aa (fC (.bl true)) ah)) ah))))))))
def aH:List Dv→Option (Rs Dv):=bg 2 cx
def TM1:bQ:=("_law_refused",1,["_law_e"],aH) :: TM0
theorem ik (A:Af K "_law_refused" (top 92) f) (tm:HAM P w K mg base TM0):HAM P w K mg base TM1 :=
 u9 (yi XI Gn ["_law_e","_law_flags"] ["_law_e"] cx A (by walk_at "d") (by delta cx; walk_at "b")) tm
def bp:FnS:=(aE (bn 1 (fM (iP) (ac 0) (aa (fC (.str ".")) ah))) (aI (bh [("parts",1)] (fun ρ=>bnd ((aa (fB1 dj (aa (ac 1) ah)) ah) ρ) gy) none (fM (qr) (fC (.str ".")) (aa (vT (ac 1) (gm (ac 0)) ju) ah)))))
def bq:List Dv→Option (Rs Dv):=bg 2 bp
def T13:bQ:=("ends_longest_first",1,["name"],bq) :: T12
theorem dE (A:Af K "ends_longest_first" (top 24) f) (t:HA P w K mg base T12):HA P w K mg base T13 :=
 aw (aC XI Gn ["name","parts"] ["name"] bp A (by walk_at "d") (by delta bp; walk_at "b")) t
def bG:FnS:=(aI (f2 ixD (fM (um) (ac 0) (aa (fC (.str ".")) ah)) (fC (.int 2))))
def bH:List Dv→Option (Rs Dv):=bg 1 bG
def T14:bQ:=("behind_first_dot",1,["end"],bH) :: T13
theorem eR (A:Af K "behind_first_dot" (top 25) f) (t:HA P w K mg base T13):HA P w K mg base T14 :=
 aw (aC XI Gn ["end"] ["end"] bG A (by walk_at "d") (by delta bG; walk_at "b")) t
def cP:FnS:=(aE (bP (fB (f2 inD (ac 1) (ac 0))) (aI (fC (.bl true))) (fun ρ=>some (.nx ρ))) (aI (gw (f2 inD (fC (.str ".")) (ac 1)) (f2 inD (f2 ef (fC (.str "*.")) (ai bH 1 (aa (ac 1) ah))) (ac 0)))))
def el:List Dv→Option (Rs Dv):=bg 2 cP
def T15:bQ:=("is_told_open",2,["table","end"],el) :: T14
theorem il (A:Af K "is_told_open" (top 26) f) (t:HA P w K mg base T14):HA P w K mg base T15 :=
 aw (aC XI Gn ["table","end"] ["table","end"] cP A (by walk_at "d") (by delta cP; walk_at "b")) t
def cX:FnS:=(bP (fB (f2 inD (f2 ef (fC (.str "!")) (ac 3)) (ac 0))) (aI (ai bH 1 (aa (ac 3) ah))) (fun ρ=>some (.nx ρ)))
def cY:FnS:=(bP (fB (ai el 2 (aa (ac 0) (aa (ac 3) ah)))) (aI (ac 3)) (fun ρ=>some (.nx ρ)))
def cy:FnS:=(aE (bn 2 (ai bq 1 (aa (ac 1) ah))) (aE (oP 3 [] (bZ (ac 2)) cX) (aE (oP 3 [3] (bZ (ac 2)) cY) (aI (f2 ixD (ac 2) (f1 wY (fC (.int 1))))))))
def dF:List Dv→Option (Rs Dv):=bg 4 cy
def T16:bQ:=("find_open_end",3,["table","name"],dF) :: T15
theorem gp (A:Af K "find_open_end" (top 27) f) (t:HA P w K mg base T15):HA P w K mg base T16 :=
 aw (aC XI Gn ["table","name","ends","end"] ["table","name"] cy A (by walk_at "d") (by delta cy cX cY; walk_at "b")) t
def cQ:FnS:=(aE (bn 2 (ai dF 2 (aa (ac 0) (aa (ac 1) ah)))) (aE (bn 3 (ai bq 1 (aa (ac 1) ah))) (aE (bn 4 (fML Dl (ac 3) (aa (ac 2) ah))) (aE (bP (fB (f2 eqX (ac 4) (fC (.int 0)))) (aI (fC .non)) (fun ρ=>some (.nx ρ))) (aI (f2 ixD (ac 3) (f2 ue (ac 4) (fC (.int 1)))))))))
def a5:List Dv→Option (Rs Dv):=bg 5 cQ
def T17:bQ:=("find_own_end",4,["table","name"],a5) :: T16
theorem io (A:Af K "find_own_end" (top 28) f) (t:HA P w K mg base T16):HA P w K mg base T17 :=
 aw (aC XI Gn ["table","name","end","ends","place"] ["table","name"] cQ A (by walk_at "d") (by delta cQ; walk_at "b")) t
def cZ:FnS:=(aE (bn 2 (ai a5 2 (aa (ac 0) (aa (f2 ixD (ac 1) (fC (.int 2))) ah)))) (aE (bP (fB (f2 isN (ac 2) (fC .non))) (aI (f2 ixD (ac 1) (fC (.int 2)))) (fun ρ=>some (.nx ρ))) (aI (ac 2))))
def aJ:List Dv→Option (Rs Dv):=bg 3 cZ
def T18:bQ:=("group_of",5,["table","note"],aJ) :: T17
theorem mf (A:Af K "group_of" (top 68) f) (t:HA P w K mg base T17):HA P w K mg base T18 :=
 aw (aC XI Gn ["table","note","own"] ["table","note"] cZ A (by walk_at "d") (by delta cZ; walk_at "b")) t
def nY:FnS:=(aI (cD (aa (f2 ixD (ac 0) (fC (.int 6))) (aa (f2 ixD (ac 0) (fC (.int 9))) ah))))
def fH:List Dv→Option (Rs Dv):=bg 1 nY
def T19:bQ:=("rank",1,["note"],fH) :: T18
theorem yB (A:Af K "rank" (top 73) f) (t:HA P w K mg base T18):HA P w K mg base T19 :=
 aw (aC XI Gn ["note"] ["note"] nY A (by walk_at "d") (by delta nY; walk_at "b")) t
def c0:FnS:=(aE (bn 2 (fB1 (ph fH) (aa (ac 0) ah))) (aI (uI (ac 2) ju (gm (fB1 Dw (aa (f2 ue (fB1 dj (aa (ac 0) ah)) (ac 1)) (aa (fC (.int 0)) ah)))))))
def cf:List Dv→Option (Rs Dv):=bg 3 c0
def T20:bQ:=("too_many",4,["notes","room"],cf) :: T19
theorem mh (A:Af K "too_many" (top 72) f) (t:HA P w K mg base T19):HA P w K mg base T20 :=
 aw (aC XI Gn ["notes","room","in_order"] ["notes","room"] c0 A (by walk_at "d") (by delta c0; walk_at "b")) t
def dG:FnS:=(aI (fB1 ei (aa (bh [("dropped",1)] (bZ (ac 0)) (some (fB (f2 cH (ac 0) (ac 1)))) (ac 0)) ah)))
def c4:List Dv→Option (Rs Dv):=bg 2 dG
def T21:bQ:=("without",1,["notes","dropped"],c4) :: T20
theorem pk (A:Af K "without" (top 74) f) (t:HA P w K mg base T20):HA P w K mg base T21 :=
 aw (aC XI Gn ["notes","dropped"] ["notes","dropped"] dG A (by walk_at "d") (by delta dG; walk_at "b")) t
def eS:FnS:=(aE (bn 6 (aG 1 [("table",0),("group",5)] (bZ (ac 1)) (gN 0) (some (fB (f2 eqX (ai aJ 2 (aa (ac 1) (aa (ac 0) ah))) (ac 2)))) (ac 0))) (bn 4 (ai c4 2 (aa (ac 4) (aa (ai cf 2 (aa (ac 6) (aa (ac 2) ah))) ah)))))
def sd:FnS:=(aE (bn 4 (ac 1)) (aE (oP 5 [5,6] (bZ (fB1 cO (aa (bh [("table",0)] (bZ (ac 1)) none (ai aJ 2 (aa (ac 1) (aa (ac 0) ah)))) ah))) eS) (aI (ai c4 2 (aa (ac 4) (aa (ai cf 2 (aa (ac 4) (aa (ac 3) ah))) ah))))))
def vp:List Dv→Option (Rs Dv):=bg 7 sd
def T22:bQ:=("fit",6,["table","notes","each","most"],vp) :: T21
theorem Cj (A:Af K "fit" (top 71) f) (t:HA P w K mg base T21):HA P w K mg base T22 :=
 aw (aC XI Gn ["table","notes","each","most","left","group","members"] ["table","notes","each","most"] sd A (by walk_at "d") (by delta sd eS; walk_at "b")) t
def vq:FnS:=(aI (cD (aa (f2 ixD (ac 0) (fC (.int 0))) (aa (f2 ixD (ac 0) (fC (.int 2))) (aa (f2 ixD (ac 0) (fC (.int 4))) ah)))))
def pp:List Dv→Option (Rs Dv):=bg 1 vq
def T23:bQ:=("key",1,["note"],pp) :: T22
theorem Ck (A:Af K "key" (top 58) f) (t:HA P w K mg base T22):HA P w K mg base T23 :=
 aw (aC XI Gn ["note"] ["note"] vq A (by walk_at "d") (by delta vq; walk_at "b")) t
def bd:FnS:=(aE (bn 1 (aG 1 [] (bZ (ac 0)) (gN 0) none (ai pp 1 (aa (ac 0) ah)))) (aI (f2 eqX (fB1 g7 (aa (ac 1) ah)) (fB1 dj (aa (ac 1) ah)))))
def aT:List Dv→Option (Rs Dv):=bg 2 bd
def T24:bQ:=("has_no_key_twice",2,["notes"],aT) :: T23
theorem eU (A:Af K "has_no_key_twice" (top 63) f) (t:HA P w K mg base T23):HA P w K mg base T24 :=
 aw (aC XI Gn ["notes","keys"] ["notes"] bd A (by walk_at "d") (by delta bd; walk_at "b")) t
def dH:FnS:=(aI (fB1 lM (aa (bh [("notes",0)] (fun ρ=>bnd ((aa (fC (.int 1)) (aa (fB1 dj (aa (ac 0) ah)) ah)) ρ) tE) none (f2 leX (f2 ixD (f2 ixD (ac 1) (f2 ue (ac 0) (fC (.int 1)))) (fC (.int 8))) (f2 ixD (f2 ixD (ac 1) (ac 0)) (fC (.int 8))))) ah)))
def cL:List Dv→Option (Rs Dv):=bg 1 dH
def T25:bQ:=("is_by_made",1,["notes"],cL) :: T24
theorem jM (A:Af K "is_by_made" (top 62) f) (t:HA P w K mg base T24):HA P w K mg base T25 :=
 aw (aC XI Gn ["notes"] ["notes"] dH A (by walk_at "d") (by delta dH; walk_at "b")) t
def aO:FnS:=(aE (bP (bOr (di (fB (f1 (dW eG) (ac 0)))) (fB (f1 (dW bM) (ac 0)))) (aI (fC (.bl false))) (fun ρ=>some (.nx ρ))) (aI (gw (f2 leX (ac 1) (ac 0)) (f2 leX (ac 0) (ac 2)))))
def ax:List Dv→Option (Rs Dv):=bg 3 aO
def T26:bQ:=("is_whole_number",1,["thing","least","most"],ax) :: T25
theorem fI (A:Af K "is_whole_number" (top 11) f) (t:HA P w K mg base T25):HA P w K mg base T26 :=
 aw (aC XI Gn ["thing","least","most"] ["thing","least","most"] aO A (by walk_at "d") (by delta aO; walk_at "b")) t
def dc:FnS:=(aI (ai ax 3 (aa (ac 0) (aa (fC (.int 0)) (aa (fC (.int 9999)) ah)))))
def bx:List Dv→Option (Rs Dv):=bg 1 dc
def T27:bQ:=("is_moment",2,["thing"],bx) :: T26
theorem lc (A:Af K "is_moment" (top 35) f) (t:HA P w K mg base T26):HA P w K mg base T27 :=
 aw (aC XI Gn ["thing"] ["thing"] dc A (by walk_at "d") (by delta dc; walk_at "b")) t
def aQ:FnS:=(aI (vOr (f2 isN (ac 0) (fC .non)) (ai bx 1 (aa (ac 0) ah))))
def aF:List Dv→Option (Rs Dv):=bg 1 aQ
def T28:bQ:=("is_moment_or_none",3,["thing"],aF) :: T27
theorem d5 (A:Af K "is_moment_or_none" (top 36) f) (t:HA P w K mg base T27):HA P w K mg base T28 :=
 aw (aC XI Gn ["thing"] ["thing"] aQ A (by walk_at "d") (by delta aQ; walk_at "b")) t
def dI:FnS:=(aE (bP (di (fB (f1 (dW eA) (ac 0)))) (aI (fC (.bl false))) (fun ρ=>some (.nx ρ))) (aE (bP (bOr (fB (f2 ltX (fB1 dj (aa (ac 0) ah)) (ac 2))) (fB (f2 gtD (fB1 dj (aa (ac 0) ah)) (ac 3)))) (aI (fC (.bl false))) (fun ρ=>some (.nx ρ))) (aI (fB1 lM (aa (bh [("signs",1)] (bZ (ac 0)) none (f2 inD (ac 0) (ac 1))) ah)))))
def bV:List Dv→Option (Rs Dv):=bg 4 dI
def T29:bQ:=("is_text_of",1,["thing","signs","least","most"],bV) :: T28
theorem jN (A:Af K "is_text_of" (top 10) f) (t:HA P w K mg base T28):HA P w K mg base T29 :=
 aw (aC XI Gn ["thing","signs","least","most"] ["thing","signs","least","most"] dI A (by walk_at "d") (by delta dI; walk_at "b")) t
def fW:FnS:=(aE (bP (di (fB (ai bV 4 (aa (ac 0) (aa (fC (.str "abcdefghijklmnopqrstuvwxyz0123456789-")) (aa (fC (.int 1)) (aa (fC (.int 8)) ah))))))) (aI (fC (.bl false))) (fun ρ=>some (.nx ρ))) (aI (gw (oO (fM (ui KO) (ac 0) (aa (fC (.str "-")) ah))) (oO (fM (ui OC) (ac 0) (aa (fC (.str "-")) ah))))))
def i7:List Dv→Option (Rs Dv):=bg 1 fW
def T30:bQ:=("is_label",2,["thing"],i7) :: T29
theorem mi (A:Af K "is_label" (top 19) f) (t:HA P w K mg base T29):HA P w K mg base T30 :=
 aw (aC XI Gn ["thing"] ["thing"] fW A (by walk_at "d") (by delta fW; walk_at "b")) t
def ip:FnS:=(aE (bP (di (fB (f1 (dW eA) (ac 0)))) (aI (fC (.bl false))) (fun ρ=>some (.nx ρ))) (aE (bn 1 (fM (iP) (ac 0) (aa (fC (.str ".")) ah))) (aE (bP (bOr (fB (f2 gtD (fB1 dj (aa (ac 1) ah)) (fC (.int 5)))) (di (fB (fB1 lM (aa (bh [] (bZ (ac 1)) none (ai i7 1 (aa (ac 0) ah))) ah))))) (aI (fC (.bl false))) (fun ρ=>some (.nx ρ))) (aI (oO (ai bV 4 (aa (f2 ixD (ac 1) (f1 wY (fC (.int 1)))) (aa (fC (.str "0123456789")) (aa (fC (.int 1)) (aa (fC (.int 8)) ah))))))))))
def bW:List Dv→Option (Rs Dv):=bg 2 ip
def T31:bQ:=("is_name",3,["thing"],bW) :: T30
theorem pq (A:Af K "is_name" (top 20) f) (t:HA P w K mg base T30):HA P w K mg base T31 :=
 aw (aC XI Gn ["thing","parts"] ["thing"] ip A (by walk_at "d") (by delta ip; walk_at "b")) t
def cR:FnS:=(aI (ai bV 4 (aa (ac 0) (aa (fC (.str "abcdefghijklmnopqrstuvwxyzABCDEFGHIJKLMNOPQRSTUVWXYZ0123456789-_")) (aa (fC (.int 1)) (aa (fC (.int 10)) ah))))))
def bu:List Dv→Option (Rs Dv):=bg 1 cR
def T32:bQ:=("is_note_name",2,["thing"],bu) :: T31
theorem iq (A:Af K "is_note_name" (top 42) f) (t:HA P w K mg base T31):HA P w K mg base T32 :=
 aw (aC XI Gn ["thing"] ["thing"] cR A (by walk_at "d") (by delta cR; walk_at "b")) t
def iu:FnS:=(aI (gw (ai bV 4 (aa (ac 0) (aa (fC (.str "abcdefghijklmnopqrstuvwxyz0123456789-_./")) (aa (fC (.int 1)) (aa (fC (.int 20)) ah))))) (fM (ui KO) (ac 0) (aa (fC (.str "/")) ah))))
def dJ:List Dv→Option (Rs Dv):=bg 1 iu
def T33:bQ:=("is_path",2,["thing"],dJ) :: T32
theorem pr (A:Af K "is_path" (top 32) f) (t:HA P w K mg base T32):HA P w K mg base T33 :=
 aw (aC XI Gn ["thing"] ["thing"] iu A (by walk_at "d") (by delta iu; walk_at "b")) t
def fX:FnS:=(aI (vOr (f2 eqX (ac 0) (fC (.str "any"))) (f2 eqX (ac 0) (fC (.str "near")))))
def fY:List Dv→Option (Rs Dv):=bg 1 fX
def T34:bQ:=("is_reach",1,["thing"],fY) :: T33
theorem mj (A:Af K "is_reach" (top 44) f) (t:HA P w K mg base T33):HA P w K mg base T34 :=
 aw (aC XI Gn ["thing"] ["thing"] fX A (by walk_at "d") (by delta fX; walk_at "b")) t
def de:FnS:=(aI (gw (f1 (dW dq) (ac 0)) (f2 eqX (fB1 dj (aa (ac 0) ah)) (ac 1))))
def df:List Dv→Option (Rs Dv):=bg 2 de
def T35:bQ:=("is_tuple_of",1,["thing","parts"],df) :: T34
theorem iI (A:Af K "is_tuple_of" (top 12) f) (t:HA P w K mg base T34):HA P w K mg base T35 :=
 aw (aC XI Gn ["thing","parts"] ["thing","parts"] de A (by walk_at "d") (by delta de; walk_at "b")) t
def fZ:FnS:=(aE (bP (bOr (di (fB (f1 (dW eA) (ac 0)))) (fB (f2 gtD (fB1 dj (aa (ac 0) ah)) (fC (.int 12))))) (aI (fC (.bl false))) (fun ρ=>some (.nx ρ))) (aI (fB1 lM (aa (bh [] (bZ (ac 0)) none (gw (f2 leX (fC (.str "!")) (ac 0)) (gw (f2 leX (ac 0) (fC (.str "~"))) (f2 kl (ac 0) (fC (.str ";,=")))))) ah))))
def c5:List Dv→Option (Rs Dv):=bg 1 fZ
def T36:bQ:=("is_worth",1,["thing"],c5) :: T35
theorem ml (A:Af K "is_worth" (top 43) f) (t:HA P w K mg base T35):HA P w K mg base T36 :=
 aw (aC XI Gn ["thing"] ["thing"] fZ A (by walk_at "d") (by delta fZ; walk_at "b")) t
def fJ:FnS:=(aE (bP (di (fB (ai df 2 (aa (ac 0) (aa (fC (.int 10)) ah))))) (aI (fC (.bl false))) (fun ρ=>some (.nx ρ))) (aE (bP (bOr (di (fB (ai bx 1 (aa (f2 ixD (ac 0) (fC (.int 8))) ah)))) (di (fB (ai bx 1 (aa (f2 ixD (ac 0) (fC (.int 9))) ah))))) (aI (fC (.bl false))) (fun ρ=>some (.nx ρ))) (aI (fB1 lM (aa (cM (aa (ai bu 1 (aa (f2 ixD (ac 0) (fC (.int 0))) ah)) (aa (ai c5 1 (aa (f2 ixD (ac 0) (fC (.int 1))) ah)) (aa (ai bW 1 (aa (f2 ixD (ac 0) (fC (.int 2))) ah)) (aa (f1 (dW bM) (f2 ixD (ac 0) (fC (.int 3)))) (aa (ai dJ 1 (aa (f2 ixD (ac 0) (fC (.int 4))) ah)) (aa (ai aF 1 (aa (f2 ixD (ac 0) (fC (.int 5))) ah)) (aa (f1 (dW bM) (f2 ixD (ac 0) (fC (.int 6)))) (aa (ai fY 1 (aa (f2 ixD (ac 0) (fC (.int 7))) ah)) (aa (f2 leX (f2 ixD (ac 0) (fC (.int 8))) (f2 ixD (ac 0) (fC (.int 9)))) ah)))))))))) ah)))))
def cz:List Dv→Option (Rs Dv):=bg 1 fJ
def T37:bQ:=("is_note",4,["thing"],cz) :: T36
theorem pv (A:Af K "is_note" (top 57) f) (t:HA P w K mg base T36):HA P w K mg base T37 :=
 aw (aC XI Gn ["thing"] ["thing"] fJ A (by walk_at "d") (by delta fJ; walk_at "b")) t
def dQ:FnS:=(aE (bP (bOr (di (fB (f1 (dW dq) (ac 0)))) (fB (f2 gtD (fB1 dj (aa (ac 0) ah)) (fC (.int 20))))) (aI (fC (.bl false))) (fun ρ=>some (.nx ρ))) (aE (bP (di (fB (fB1 lM (aa (bh [] (bZ (ac 0)) none (ai cz 1 (aa (ac 0) ah))) ah)))) (aI (fC (.bl false))) (fun ρ=>some (.nx ρ))) (aI (gw (ai cL 1 (aa (ac 0) ah)) (ai aT 1 (aa (ac 0) ah))))))
def dg:List Dv→Option (Rs Dv):=bg 1 dQ
def T38:bQ:=("is_jar",5,["thing"],dg) :: T37
theorem se (A:Af K "is_jar" (top 61) f) (t:HA P w K mg base T37):HA P w K mg base T38 :=
 aw (aC XI Gn ["thing"] ["thing"] dQ A (by walk_at "d") (by delta dQ; walk_at "b")) t
def cA:FnS:=(bP (di (fB (ai dg 1 (aa (ac 0) ah)))) (cG 5 (fC (.str "this is no jar"))) (fun ρ=>some (.nx ρ)))
def az:List Dv→Option (Rs Dv):=j4 1 cA
def TE1:bQ:=("need_jar",6,["thing"],az) :: TE0
theorem mn (A:Af K "need_jar" (top 64) f) (t:HA P w K mg base T38) (te:HAE P w K mg base TE0):HAE P w K mg base TE1 :=
 fG (ie XI Gn ["thing"] ["thing"] cA A (by walk_at "d") (by delta cA; walk_at "b")) te
def bX:FnS:=(bP (di (fB (ai ax 3 (aa (ac 0) (aa (fC (.int 0)) (aa (fC (.int 20)) ah)))))) (cG 6 (fC (.str "this is no room"))) (fun ρ=>some (.nx ρ)))
def ay:List Dv→Option (Rs Dv):=j4 1 bX
def TE2:bQ:=("need_room",2,["thing"],ay) :: TE1
theorem lf (A:Af K "need_room" (top 67) f) (t:HA P w K mg base T38) (te:HAE P w K mg base TE1):HAE P w K mg base TE2 :=
 fG (ie XI Gn ["thing"] ["thing"] bX A (by walk_at "d") (by delta bX; walk_at "b")) te
def iw:FnS:=(aE (bP (di (fB (f1 (dW eA) (ac 0)))) (aI (fC (.bl false))) (fun ρ=>some (.nx ρ))) (aE (bP (fB (fM (ui KO) (ac 0) (aa (fC (.str "*.")) ah))) (aI (ai bW 1 (aa (vT (ac 0) (gm (fC (.int 2))) ju) ah))) (fun ρ=>some (.nx ρ))) (aE (bP (fB (fM (ui KO) (ac 0) (aa (fC (.str "!")) ah))) (aI (gw (f2 inD (fC (.str ".")) (ac 0)) (ai bW 1 (aa (vT (ac 0) (gm (fC (.int 1))) ju) ah)))) (fun ρ=>some (.nx ρ))) (aI (ai bW 1 (aa (ac 0) ah))))))
def lg:List Dv→Option (Rs Dv):=bg 1 iw
def T39:bQ:=("is_rule",4,["thing"],lg) :: T38
theorem pA (A:Af K "is_rule" (top 21) f) (t:HA P w K mg base T38):HA P w K mg base T39 :=
 aw (aC XI Gn ["thing"] ["thing"] iw A (by walk_at "d") (by delta iw; walk_at "b")) t
def dR:FnS:=(aE (bP (bOr (di (fB (f1 (dW dq) (ac 0)))) (fB (f2 gtD (fB1 dj (aa (ac 0) ah)) (fC (.int 8))))) (aI (fC (.bl false))) (fun ρ=>some (.nx ρ))) (aE (bP (di (fB (fB1 lM (aa (bh [] (bZ (ac 0)) none (ai lg 1 (aa (ac 0) ah))) ah)))) (aI (fC (.bl false))) (fun ρ=>some (.nx ρ))) (aI (fB1 lM (aa (bh [("thing",0)] (fun ρ=>bnd ((aa (fC (.int 1)) (aa (fB1 dj (aa (ac 0) ah)) ah)) ρ) tE) none (f2 ltX (f2 ixD (ac 1) (f2 ue (ac 0) (fC (.int 1)))) (f2 ixD (ac 1) (ac 0)))) ah)))))
def bj:List Dv→Option (Rs Dv):=bg 1 dR
def T40:bQ:=("is_table",5,["thing"],bj) :: T39
theorem mo (A:Af K "is_table" (top 22) f) (t:HA P w K mg base T39):HA P w K mg base T40 :=
 aw (aC XI Gn ["thing"] ["thing"] dR A (by walk_at "d") (by delta dR; walk_at "b")) t
def bI:FnS:=(bP (di (fB (ai bj 1 (aa (ac 0) ah)))) (cG 1 (fC (.str "this is no table"))) (fun ρ=>some (.nx ρ)))
def ao:List Dv→Option (Rs Dv):=j4 1 bI
def TE3:bQ:=("need_table",6,["thing"],ao) :: TE2
theorem jO (A:Af K "need_table" (top 23) f) (t:HA P w K mg base T40) (te:HAE P w K mg base TE2):HAE P w K mg base TE3 :=
 fG (ie XI Gn ["thing"] ["thing"] bI A (by walk_at "d") (by delta bI; walk_at "b")) te
def aV:FnS:=(aE (cC (aZ ao 1 (aa (ac 0) ah))) (aE (cC (aZ az 1 (aa (ac 1) ah))) (aE (cC (aZ ay 1 (aa (ac 2) ah))) (aE (cC (aZ ay 1 (aa (ac 3) ah))) (aI (ai vp 4 (aa (ac 0) (aa (ac 1) (aa (ac 2) (aa (ac 3) ah))))))))))
def bf:List Dv→Option (Rs Dv):=j4 4 aV
def TE4:bQ:=("fitted",7,["table","jar","each","most"],bf) :: TE3
theorem sf (A:Af K "fitted" (top 70) f) (t:HA P w K mg base T40) (te:HAE P w K mg base TE3):HAE P w K mg base TE4 :=
 fG (ie XI Gn ["table","jar","each","most"] ["table","jar","each","most"] aV A (by walk_at "d") (by delta aV; walk_at "b")) te
def bJ:FnS:=(aE (cC (aZ ao 1 (aa (ac 0) ah))) (aE (cC (aZ az 1 (aa (ac 1) ah))) (aE (bn 2 (bh [("table",0)] (bZ (ac 1)) none (ai aJ 2 (aa (ac 1) (aa (ac 0) ah))))) (aI (bh [("names",2)] (bZ (fB1 cO (aa (ac 2) ah))) none (cD (aa (ac 0) (aa (fML zg (ac 1) (aa (ac 0) ah)) ah))))))))
def bK:List Dv→Option (Rs Dv):=j4 3 bJ
def TE5:bQ:=("groups",7,["table","jar"],bK) :: TE4
theorem sg (A:Af K "groups" (top 69) f) (t:HA P w K mg base T40) (te:HAE P w K mg base TE4):HAE P w K mg base TE5 :=
 fG (ie XI Gn ["table","jar","names"] ["table","jar"] bJ A (by walk_at "d") (by delta bJ; walk_at "b")) te
def eV:FnS:=(xB 7 5 6 (fIf (fB (f2 eqX (ac 0) (fC (.int 0)))) (aZ bK 2 (aa (ac 1) (aa (ac 2) ah))) (aZ bf 4 (aa (ac 1) (aa (ac 2) (aa (ac 3) (aa (ac 4) ah)))))) (ai aH 1 (aa (ac 5) ah)))
def aA:List Dv→Option (Rs Dv):=bg 6 eV
def T41:bQ:=("_law_told",8,["_law_way","_law_table_here","_law_jar_here","_law_each","_law_most"],aA) :: T40
theorem lh (A:Af K "_law_told" (top 93) f) (t:HA P w K mg base T40) (te:HAE P w K mg base TE5) (tm:HAM P w K mg base TM1):HA P w K mg base T41 :=
 aw (aC XI Gn ["_law_way","_law_table_here","_law_jar_here","_law_each","_law_most","_law_e"] ["_law_way","_law_table_here","_law_jar_here","_law_each","_law_most"] eV A (by walk_at "d") (by delta eV; walk_at "b")) t
def mq:FnE:=(ai bU 2 (aa (ac 0) (aa (fC (.int 0)) ah)))
def mr:FnE:=(ai dP 3 (aa (ac 0) (aa (fC (.int 10)) (aa (fC (.int 8)) ah))))
def ms:FnE:=(bh [("_law_table_here",1)] (bZ (ac 2)) none (ai aD 2 (aa (ac 1) (aa (ac 0) ah))))
def mv:FnE:=(aG 1 [("_law_names",3)] (bZ (fB1 cO (aa (ac 3) ah))) (gN 0) none (cD (aa (ac 0) (aa (fML zg (ac 1) (aa (ac 0) ah)) ah))))
def mw:FnB:=(fB (f2 neX (ai aA 5 (aa (fC (.int 0)) (aa (ac 1) (aa (ac 2) (aa (fC (.int 0)) (aa (fC (.int 0)) ah)))))) (ac 4)))
def mx:FnE:=(ai ag 3 (aa (ac 0) (aa (f2 ci (fC (.int 140)) (f2 fj (fC (.int 2)) (ac 5))) (aa (f2 ixD (cM (aa (fC (.int 3)) (aa (fC (.int 9)) ah))) (ai ag 3 (aa (ac 0) (aa (fC (.int 150)) (aa (fC (.int 2)) ah))))) ah))))
def my:FnE:=(ai ag 3 (aa (ac 0) (aa (f2 ci (fC (.int 141)) (f2 fj (fC (.int 2)) (ac 5))) (aa (fC (.int 9)) ah))))
def sh:FnB:=(fB (f2 neX (ai aA 5 (aa (fC (.int 1)) (aa (ac 1) (aa (ac 2) (aa (ac 6) (aa (ac 7) ah)))))) (ai bF 4 (aa (ac 1) (aa (ac 2) (aa (ac 6) (aa (ac 7) ah)))))))
def iy:FnS:=(aE (bn 6 mx) (aE (bn 7 my) (bP sh (aI (fC (.bl false))) (fun ρ=>some (.nx ρ)))))
def mz:FnE:=(cM (aa (cD (aa (fC (.str "/")) (aa (fC (.bl false)) (aa (fC (.int 0)) (aa (fC (.int 9)) ah))))) (aa (cD (aa (fC (.str "/x")) (aa (fC (.bl false)) (aa (fC (.int 1)) (aa (fC (.int 5)) ah))))) (aa (cD (aa (fC (.str "/y")) (aa (fC (.bl true)) (aa (fC (.int 1)) (aa (fC (.int 3)) ah))))) (aa (cD (aa (fC (.str "/z")) (aa (fC (.bl false)) (aa (fC (.int 2)) (aa (fC (.int 6)) ah))))) ah)))))
def mB:FnE:=(fB1 ei (aa (aG 4 [] (bZ (ac 8)) gQ none (cD (aa (fC (.str "n")) (aa (fC (.str "")) (aa (fC (.str "a.b")) (aa (fC (.bl false)) (aa (ac 0) (aa (fC .non) (aa (ac 1) (aa (fC (.str "any")) (aa (ac 2) (aa (ac 3) ah)))))))))))) ah))
def si:FnB:=(fB (f2 neX (ai aA 5 (aa (fC (.int 1)) (aa (ac 1) (aa (ac 9) (aa (ac 7) (aa (fC (.int 20)) ah)))))) (ai bF 4 (aa (ac 1) (aa (ac 9) (aa (ac 7) (aa (fC (.int 20)) ah)))))))
def iz:FnS:=(bP si (aI (fC (.bl false))) (fun ρ=>some (.nx ρ)))
def jP:FnB:=(bOr (fB (f2 neX (ai aA 5 (aa (fC (.int 1)) (aa (ac 1) (aa (ac 2) (aa (fC (.int 20)) (aa (fC (.int 20)) ah)))))) (ac 2))) (fB (f2 neX (ai aA 5 (aa (fC (.int 1)) (aa (ac 1) (aa (ac 2) (aa (fC (.int 0)) (aa (fC (.int 20)) ah)))))) (cD ah))))
def mC:FnB:=(fB (f2 neX (ai aA 5 (aa (fC (.int 1)) (aa (ac 1) (aa (ac 2) (aa (fC (.int 20)) (aa (fC (.int 0)) ah)))))) (cD ah)))
def jQ:FnE:=(f2 ixD (cM (aa (f1 wY (fC (.int 1))) (aa (fC (.int 21)) (aa (fC .non) (aa (fC (.bl true)) (aa (fC (.str "1")) ah)))))) (ai ag 3 (aa (ac 0) (aa (fC (.int 151)) (aa (fC (.int 5)) ah)))))
def mD:FnB:=(fB (f2 neX (cM (aa (ai aA 5 (aa (fC (.int 1)) (aa (ac 1) (aa (ac 2) (aa (ac 10) (aa (fC (.int 3)) ah)))))) (aa (ai aA 5 (aa (fC (.int 1)) (aa (ac 1) (aa (ac 2) (aa (fC (.int 3)) (aa (ac 10) ah)))))) ah))) (f2 zl (cM (aa (cD (aa (fC (.str "refused")) (aa (fC (.int 6)) ah))) ah)) (fC (.int 2)))))
def mE:FnB:=(fB (f2 neX (bh [("_law_table_here",1),("_law_jar_here",2),("_law_odd",10)] (fun ρ=>bnd ((aa (fC (.int 2)) ah) ρ) gy) none (ai aA 5 (aa (ac 0) (aa (ac 1) (aa (fB1 qI (aa (ac 2) ah)) (aa (ac 3) (aa (ac 3) ah))))))) (f2 zl (cM (aa (cD (aa (fC (.str "refused")) (aa (fC (.int 5)) ah))) ah)) (fC (.int 2)))))
def sj:FnE:=(f2 eqX (bh [("_law_table_here",1),("_law_jar_here",2),("_law_odd",10)] (fun ρ=>bnd ((aa (fC (.int 2)) ah) ρ) gy) none (ai aA 5 (aa (ac 0) (aa (fB1 qI (aa (ac 1) ah)) (aa (fB1 qI (aa (ac 2) ah)) (aa (ac 3) (aa (ac 3) ah))))))) (f2 zl (cM (aa (cD (aa (fC (.str "refused")) (aa (fC (.int 1)) ah))) ah)) (fC (.int 2))))
def sk:FnS:=(aE (bn 1 mq) (aE (bn 2 mr) (aE (bn 3 ms) (aE (bn 4 mv) (aE (bP mw (aI (fC (.bl false))) (fun ρ=>some (.nx ρ))) (aE (oP 5 [5,6] (fun ρ=>bnd ((aa (fC (.int 3)) ah) ρ) gy) iy) (aE (bn 8 mz) (aE (bn 9 mB) (aE (oP 7 [7] (bZ (cD (aa (fC (.int 1)) (aa (fC (.int 2)) ah)))) iz) (aE (bP jP (aI (fC (.bl false))) (fun ρ=>some (.nx ρ))) (aE (bP mC (aI (fC (.bl false))) (fun ρ=>some (.nx ρ))) (aE (bn 10 jQ) (aE (bP mD (aI (fC (.bl false))) (fun ρ=>some (.nx ρ))) (aE (bP mE (aI (fC (.bl false))) (fun ρ=>some (.nx ρ))) (aI sj)))))))))))))))
def sr:List Dv→Option (Rs Dv):=bg 11 sk
theorem Co {fd:Iu} (A:Fun K "law" "law" (top 94) f fd) (t:HA P w K mg base T41):FnOk P w K mg base CX0 9 f fd ["_law_script"] (spF K sr 1) :=
 vP ["_law_script","_law_table_here","_law_jar_here","_law_names","_law_due","_law_k","_law_each","_law_most","_law_rows","_law_known","_law_odd"] ["_law_script"] sk (by kernel_rfl) (by kernel_rfl) A (Dy (by kernel_rfl)) (by delta sk mq mr ms mv mw mx my sh iy mz mB si iz jP mC jQ mD mE sj; walk_at "b")
end
theorem af {K:ck} {x:Str} {st:Stmt} (f:Addr) (m:String) (t c:Nat) (a:nsM K x=some (some (.ref f)):=by kernel_rfl) (l:K.lookup f=some ⟨m_ "function",none,.func (Kk x x (fP st) (bC st) (au st) .none .none .none (kS m t) none (kR c) .none),#[]⟩:=by kernel_rfl) (cc:Mm K (kR c) x=true:=by kernel_rfl) (k:IE K (.ref f)=true:=by kernel_rfl):Af K x st f:=⟨a,⟨_,zZ l cc k⟩,k⟩
theorem all_mk {l:No} {w:D_} {K:ck} {h:Heap} {mg:Str→Option Value} {fa:Addr} (X:K.In h) (G:h.Ns C_ mg) (hfa:mg "law"=some (.ref fa))
 {f1 f2 f3 f4 f5 f6 f7 f8 f9 f10 f11 f12 f13 f14 f15 f16 f17 f18 f19 f20 f21 f22 f23 f24 f25 f26 f27 f28 f29 f30 f31 f32 f33 f34 f35 f36 f37 f38 f39 f40 f41 f42 f43 f44 f45 f46 f47 fl:Addr}
 (A1:Af K "_law_cell" (top 76) f1)
 (A2:Af K "_law_drawn" (top 77) f2)
 (A3:Af K "_law_dropped" (top 90) f3)
 (A4:Af K "_law_ends" (top 82) f4)
 (A5:Af K "_law_open" (top 83) f5)
 (A6:Af K "_law_own" (top 84) f6)
 (A7:Af K "_law_group" (top 89) f7)
 (A8:Af K "_law_fitted" (top 91) f8)
 (A9:Af K "_law_name" (top 78) f9)
 (A10:Af K "_law_path" (top 80) f10)
 (A11:Af K "_law_jar" (top 88) f11)
 (A12:Af K "_law_table" (top 79) f12)
 (A13:Af K "_law_refused" (top 92) f13)
 (A14:Af K "ends_longest_first" (top 24) f14)
 (A15:Af K "behind_first_dot" (top 25) f15)
 (A16:Af K "is_told_open" (top 26) f16)
 (A17:Af K "find_open_end" (top 27) f17)
 (A18:Af K "find_own_end" (top 28) f18)
 (A19:Af K "group_of" (top 68) f19)
 (A20:Af K "rank" (top 73) f20)
 (A21:Af K "too_many" (top 72) f21)
 (A22:Af K "without" (top 74) f22)
 (A23:Af K "fit" (top 71) f23)
 (A24:Af K "key" (top 58) f24)
 (A25:Af K "has_no_key_twice" (top 63) f25)
 (A26:Af K "is_by_made" (top 62) f26)
 (A27:Af K "is_whole_number" (top 11) f27)
 (A28:Af K "is_moment" (top 35) f28)
 (A29:Af K "is_moment_or_none" (top 36) f29)
 (A30:Af K "is_text_of" (top 10) f30)
 (A31:Af K "is_label" (top 19) f31)
 (A32:Af K "is_name" (top 20) f32)
 (A33:Af K "is_note_name" (top 42) f33)
 (A34:Af K "is_path" (top 32) f34)
 (A35:Af K "is_reach" (top 44) f35)
 (A36:Af K "is_tuple_of" (top 12) f36)
 (A37:Af K "is_worth" (top 43) f37)
 (A38:Af K "is_note" (top 57) f38)
 (A39:Af K "is_jar" (top 61) f39)
 (A40:Af K "need_jar" (top 64) f40)
 (A41:Af K "need_room" (top 67) f41)
 (A42:Af K "is_rule" (top 21) f42)
 (A43:Af K "is_table" (top 22) f43)
 (A44:Af K "need_table" (top 23) f44)
 (A45:Af K "fitted" (top 70) f45)
 (A46:Af K "groups" (top 69) f46)
 (A47:Af K "_law_told" (top 93) f47)
 (AL:Af K "law" (top 94) fl) (ma:CC.all (EZ K)=true) {C0 C1 C2 C3 C4 C5 C6 CJ:Addr} (cb:caB K [0,1,2,3,4,5,6] [C0,C1,C2,C3,C4,C5,C6] CJ 7=true) :
 ∃ fd:Iu,(∀ (s:c_) (v:Value),MG s fd ⟨[v],[]⟩ [("_law_script",v)])∧∀ base:Heap,K.In base→base.Ns C_ mg→FnOk l.prog w K mg base CX0 9 fa fd ["_law_script"] (spF K sr 1):=by
 have e:=hfa.symm.trans (K3 X G AL.a)
 cases e
 have M:=BO X G CC ma
 obtain ⟨fd,Fn⟩:=AL.F
 refine ⟨fd,?_,fun base _ _=>?_⟩
 · obtain ⟨oc,od,kV,doc,pm,an,cdv,ct,osl,rfl,lk,hcd⟩:=Fn.ex
   exact fun s v=>.of_eq rfl
 obtain ⟨xa,ca⟩:=Fg X G cb
 have t0:HA l.prog w K mg base T0:=BM
 have te0:HAE l.prog w K mg base TE0:=yb
 have tm0:HAM l.prog w K mg base TM0:=yc
 have t1:=k7 X G M xa ca A1 t0
 have t2:=jJ X G M xa ca A2 t1
 have t3:=ii X G M xa ca A3 t2
 have t4:=k8 X G M xa ca A4 t3
 have t5:=k9 X G M xa ca A5 t4
 have t6:=l7 X G M xa ca A6 t5
 have t7:=jK X G M xa ca A7 t6
 have t8:=iH X G M xa ca A8 t7
 have t9:=la X G M xa ca A9 t8
 have t10:=lb X G M xa ca A10 t9
 have t11:=l8 X G M xa ca A11 t10
 have t12:=jL X G M xa ca A12 t11
 have tm1:=ik X G M xa ca A13 tm0
 have t13:=dE X G M xa ca A14 t12
 have t14:=eR X G M xa ca A15 t13
 have t15:=il X G M xa ca A16 t14
 have t16:=gp X G M xa ca A17 t15
 have t17:=io X G M xa ca A18 t16
 have t18:=mf X G M xa ca A19 t17
 have t19:=yB X G M xa ca A20 t18
 have t20:=mh X G M xa ca A21 t19
 have t21:=pk X G M xa ca A22 t20
 have t22:=Cj X G M xa ca A23 t21
 have t23:=Ck X G M xa ca A24 t22
 have t24:=eU X G M xa ca A25 t23
 have t25:=jM X G M xa ca A26 t24
 have t26:=fI X G M xa ca A27 t25
 have t27:=lc X G M xa ca A28 t26
 have t28:=d5 X G M xa ca A29 t27
 have t29:=jN X G M xa ca A30 t28
 have t30:=mi X G M xa ca A31 t29
 have t31:=pq X G M xa ca A32 t30
 have t32:=iq X G M xa ca A33 t31
 have t33:=pr X G M xa ca A34 t32
 have t34:=mj X G M xa ca A35 t33
 have t35:=iI X G M xa ca A36 t34
 have t36:=ml X G M xa ca A37 t35
 have t37:=pv X G M xa ca A38 t36
 have t38:=se X G M xa ca A39 t37
 have te1:=mn X G M xa ca A40 t38 te0
 have te2:=lf X G M xa ca A41 t38 te1
 have t39:=pA X G M xa ca A42 t38
 have t40:=mo X G M xa ca A43 t39
 have te3:=jO X G M xa ca A44 t40 te2
 have te4:=sf X G M xa ca A45 t40 te3
 have te5:=sg X G M xa ca A46 t40 te4
 have t41:=lh X G M xa ca A47 t40 te5 tm1
 exact Co X G M xa ca Fn t41
end G
set_option maxHeartbeats 4000000
namespace FD
open PySem PySem.Spec PyProof.Rows L2
theorem nZ {elt:FnE} {cap:Ev} {α:Type} (en:α→Dv) (f:α→Dv):∀ {l:List α},(∀ a∈l,elt (cap.set 0 (some (en a)))=some (.ok (f a)))→qm none elt cap (l.map en)=some (l.map f)
 | [],_=>rfl
 | a :: l,h=>by
  have ih:=nZ (elt:=elt) (cap:=cap) en f (l:=l) fun b hb=>h b (l_ _ hb)
  rw [y_,y_]
  unfold qm
  dsimp only
  rw [h a g_,ih]
theorem li {tst:FnB} {elt:FnE} {cap:Ev} {α:Type} (en:α→Dv) (p:α→Bool) (f:α→Dv):∀ {l:List α},(∀ a∈l,tst (cap.set 0 (some (en a)))=some (.ok (p a))∧elt (cap.set 0 (some (en a)))=some (.ok (f a)))→qm (some tst) elt cap (l.map en)=some ((l.filter p).map f)
 | [],_=>rfl
 | a :: l,h=>by
  have ih:=li (tst:=tst) (elt:=elt) (cap:=cap) en p f (l:=l) fun b hb=>h b (l_ _ hb)
  obtain ⟨h1,h2⟩:=h a g_
  rw [y_]
  unfold qm
  dsimp only
  rw [h1,ih]
  cases q:p a with
  | true=>dsimp only; rw [h2,M8 q]; rfl
  | false=>dsimp only; rw [M9 (by rw [q]; decide)]
theorem oa {elt:FnE} {cap:Ev} {α:Type} (en:α→Dv) (f:α→Dv):∀ {l:List α},(∀ a∈l,elt (cap.set 0 (some (en a)))=some (.ok (f a)))→fL (gN 0) none elt cap (l.map en)=some (l.map f)
 | [],_=>rfl
 | a :: l,h=>by
  have ih:=oa (elt:=elt) (cap:=cap) en f (l:=l) fun b hb=>h b (l_ _ hb)
  rw [y_,y_]
  unfold fL
  show (match elt (cap.set 0 (some (en a))) with | some (.ok y)=>_ | _=>_)=_
  rw [h a g_,ih]
theorem lj {tst:FnB} {elt:FnE} {cap:Ev} {α:Type} (en:α→Dv) (p:α→Bool) (f:α→Dv):∀ {l:List α},(∀ a∈l,tst (cap.set 0 (some (en a)))=some (.ok (p a))∧elt (cap.set 0 (some (en a)))=some (.ok (f a)))→fL (gN 0) (some tst) elt cap (l.map en)=some ((l.filter p).map f)
 | [],_=>rfl
 | a :: l,h=>by
  have ih:=lj (tst:=tst) (elt:=elt) (cap:=cap) en p f (l:=l) fun b hb=>h b (l_ _ hb)
  obtain ⟨h1,h2⟩:=h a g_
  rw [y_]
  unfold fL
  show (match tst (cap.set 0 (some (en a))) with | some (.ok true)=>_ | some (.ok false)=>_ | _=>_)=_
  rw [h1,ih]
  cases q:p a with
  | true=>dsimp only; rw [h2,M8 q]; rfl
  | false=>dsimp only; rw [M9 (by rw [q]; decide)]
theorem ce {cs:List (Str×Nat)} {src:FnA} {elt:FnE} {ρ:Ev} {α:Type} (en f:α→Dv) {l:List α} (hs:src ρ=some (.ok (l.map en))) (hl:l.length≤100000) (h:∀ a∈l,elt ((vQ cs ρ).set 0 (some (en a)))=some (.ok (f a))):bh cs src none elt ρ=some (.ok (.lst (l.map f))):=by
 unfold bh
 rw [hs]
 show (match qm none elt (vQ cs ρ) (l.map en) with | some ys=>_ | none=>_)=_
 rw [nZ en f h]
 dsimp only
 rw [if_pos ⟨by simpa using hl,by simpa using hl⟩]
theorem ll {cs:List (Str×Nat)} {src:FnA} {tst:FnB} {elt:FnE} {ρ:Ev} {α:Type} (en:α→Dv) (p:α→Bool) (f:α→Dv) {l:List α} (hs:src ρ=some (.ok (l.map en))) (hl:l.length≤100000) (h:∀ a∈l,tst ((vQ cs ρ).set 0 (some (en a)))=some (.ok (p a))∧elt ((vQ cs ρ).set 0 (some (en a)))=some (.ok (f a))) :
 bh cs src (some tst) elt ρ=some (.ok (.lst ((l.filter p).map f))):=by
 unfold bh
 rw [hs]
 show (match qm (some tst) elt (vQ cs ρ) (l.map en) with | some ys=>_ | none=>_)=_
 rw [li en p f h]
 dsimp only
 have:=Ip p l
 rw [if_pos ⟨by simp; omega,by simpa using hl⟩]
theorem lm {cs:List (Str×Nat)} {src:FnA} {elt:FnE} {ρ:Ev} {α:Type} (en f:α→Dv) {l:List α} (hs:src ρ=some (.ok (l.map en))) (hl:l.length≤100000) (h:∀ a∈l,elt ((dv 1 cs ρ).set 0 (some (en a)))=some (.ok (f a))):aG 1 cs src (gN 0) none elt ρ=some (.ok (.lst (l.map f))):=by
 unfold aG
 rw [hs]
 show (match fL (gN 0) none elt (dv 1 cs ρ) (l.map en) with | some ys=>_ | none=>_)=_
 rw [oa en f h]
 dsimp only
 rw [if_pos ⟨by simpa using hl,by simpa using hl⟩]
theorem i8 {cs:List (Str×Nat)} {src:FnA} {tst:FnB} {elt:FnE} {ρ:Ev} {α:Type} (en:α→Dv) (p:α→Bool) (f:α→Dv) {l:List α} (hs:src ρ=some (.ok (l.map en))) (hl:l.length≤100000) (h:∀ a∈l,tst ((dv 1 cs ρ).set 0 (some (en a)))=some (.ok (p a))∧elt ((dv 1 cs ρ).set 0 (some (en a)))=some (.ok (f a))) :
 aG 1 cs src (gN 0) (some tst) elt ρ=some (.ok (.lst ((l.filter p).map f))):=by
 unfold aG
 rw [hs]
 show (match fL (gN 0) (some tst) elt (dv 1 cs ρ) (l.map en) with | some ys=>_ | none=>_)=_
 rw [lj en p f h]
 dsimp only
 have:=Ip p l
 rw [if_pos ⟨by simp; omega,by simpa using hl⟩]
theorem yC {i j:Int} (h:-(2 ^ 62)≤i∧i < 2 ^ 62∧-(2 ^ 62)≤j∧j < 2 ^ 62):tE [.int i,.int j]=some (.ok (rng i (j - i).toNat)):=by rw [tE,if_pos h]
theorem yD {j:Int} (h:-(2 ^ 62)≤j∧j < 2 ^ 62):gy [.int j]=some (.ok (rng 0 j.toNat)):=by rw [gy,if_pos h]
theorem yE {n:Nat} (h:n≤1000):-(2 ^ 62)≤(1:Int)∧(1:Int) < 2 ^ 62∧-(2 ^ 62)≤(n:Int)∧(n:Int) < 2 ^ 62:=by omega
theorem Cp {n:Nat} (h:n≤1000):tE [.int 1,.int (n:Int)]=some (.ok (rng 1 ((n:Int) - 1).toNat)):=yC (yE h)
theorem og {n:Nat} (h:n≤1000):gy [.int (n:Int)]=some (.ok (rng 0 n)):=by
 rw [yD (by omega)]; rfl
theorem ln {α:Type} (p:α→Bool):∀ l:List α,jv (l.map fun a=>Dv.bl (p a))=some (l.map p)
 | []=>rfl
 | a :: l=>by
  show (match jv (l.map fun a=>Dv.bl (p a)) with | some bs=>some (p a :: bs) | none=>none)=_
  rw [ln p l]
  rfl
mutual
def pln:Dv→Bool
 | .exn _=>false
 | .tup ds=>plns ds
 | .lst ds=>plns ds
 | _=>true
def plns:List Dv→Bool
 | []=>true
 | d :: ds=>pln d && plns ds
end
mutual
theorem jR:∀ d:Dv,pln d=true→HZ (bN d) (bN d)=true
 | .non,_=>by simp [bN,HZ]
 | .bl b,_=>by simp [bN,HZ]
 | .int b,_=>by simp [bN,HZ]
 | .str b,_=>by simp [bN,HZ]
 | .tup ds,h=>by simp only [bN,HZ]; exact eqvs_refl ds (by simpa [pln] using h)
 | .lst ds,h=>by simp only [bN,HZ]; exact eqvs_refl ds (by simpa [pln] using h)
 | .scr ns,_=>by
  simp only [bN,HZ]
  induction ns with
  | nil=>simp [JR]
  | cons n ns ih=>simp [JR,HZ]; exact ih rfl
 | .exn _,h=>by simp [pln] at h
theorem eqvs_refl:∀ ds:List Dv,plns ds=true→JR (toPys ds) (toPys ds)=true
 | [],_=>by simp [toPys,JR]
 | d :: ds,h=>by
  have h':pln d=true∧plns ds=true:=by simpa [plns] using h
  simp only [toPys,JR,j_]
  exact ⟨jR d h'.1,eqvs_refl ds h'.2⟩
end
theorem yF {d:Dv} (h1:okP d=true) (h2:pln d=true):neX d d=some (.ok (.bl false)):=by
 unfold neX
 split
 · rename_i b hb
   have:b=true:=by
    cases d <;> simp [eqS] at hb
    · exact hb
    · exact hb
    · exact hb
    · rw [← hb]; unfold seq; simp
   rw [this]; rfl
 · rw [h1,jR d h2]; rfl
theorem yG {d:Dv} (h1:okP d=true) (h2:pln d=true):eqX d d=some (.ok (.bl true)):=by
 unfold eqX
 split
 · rename_i b hb
   have:b=true:=by
    cases d <;> simp [eqS] at hb
    · exact hb
    · exact hb
    · exact hb
    · rw [← hb]; unfold seq; simp
   rw [this]
 · rw [h1,jR d h2]; rfl
structure It1 (k:Nat) (d:Dv):Prop where
 c:HQ (bN d)=true
 dp:(bN d).depth≤k
 p:pln d=true
theorem vt {k:Nat}:∀ {ds:List Dv},(∀ d∈ds,It1 k d)→IZ (toPys ds)=true∧K7 (toPys ds)≤k∧plns ds=true
 | [],_=>by simp [toPys,IZ,K7,plns]
 | d :: ds,h=>by
  obtain ⟨h1,h2,h3⟩:=vt (ds:=ds) fun d' hd=>h d' (l_ _ hd)
  have h0:=h d g_
  simp only [toPys,IZ,K7,plns,j_]
  exact ⟨⟨h0.c,h1⟩,by have:=h0.dp; omega,h0.p,h3⟩
theorem lq {k:Nat} {ds:List Dv} (h:∀ d∈ds,It1 k d):It1 (k + 1) (.tup ds):=by
 obtain ⟨h1,h2,h3⟩:=vt h
 exact ⟨by simpa [bN,HQ] using h1,by simp [bN,Ls]; exact h2,by simpa [pln] using h3⟩
theorem su {k:Nat} {ds:List Dv} (h:∀ d∈ds,It1 k d):It1 (k + 1) (.lst ds):=by
 obtain ⟨h1,h2,h3⟩:=vt h
 exact ⟨by simpa [bN,HQ] using h1,by simp [bN,Ls]; exact h2,by simpa [pln] using h3⟩
theorem It1.okP {k:Nat} {d:Dv} (h:It1 k d) (hk:k≤64):okP d=true:=by
 unfold FD.okP SeqAt.shaped
 rw [h.c]
 have:=h.dp
 simp
 omega
theorem It1.le {k m:Nat} {d:Dv} (h:It1 k d) (hk:k≤m):It1 m d:=⟨h.c,Hm h.dp hk,h.p⟩
theorem et {x:Str} (h:HQ (.str x)=true):It1 0 (.str x):=⟨h,by simp [bN,Ls],rfl⟩
theorem lr {i:Int}:It1 0 (.int i):=⟨rfl,by simp [bN,Ls],rfl⟩
theorem Cq {i:Bool}:It1 0 (.bl i):=⟨rfl,by simp [bN,Ls],rfl⟩
theorem Cr:It1 0 .non:=⟨rfl,by simp [bN,Ls],rfl⟩
theorem ls {α:Type} (f:α→Dv):∀ l:List α,toPys (l.map f)=l.map fun a=>bN (f a)
 | []=>rfl
 | a :: l=>by simp [toPys,ls f l]
theorem Fm {x:Dv} {α:Type} {en:α→Dv} {l:List α} {p:α→Bool} (hx:It1 5 x) (hf:cg x=false) (hl:∀ a∈l,It1 5 (en a)) (hp:∀ a∈l,HZ (bN (en a)) (bN x)=p a):inX x (.lst (l.map en))=some (.ok (.bl (l.any p)))∧cH x (.lst (l.map en))=some (.ok (.bl (!l.any p)))∧inX x (.tup (l.map en))=some (.ok (.bl (l.any p)))∧cH x (.tup (l.map en))=some (.ok (.bl (!l.any p))):=by
 have e:inP x (l.map en)=some (l.any p):=by
  unfold inP
  have h1:=hx.okP (by omega)
  have h2:=(vt (k:=5) (ds:=l.map en) (by intro d hd; obtain ⟨a,ha,rfl⟩:=Iv.mp hd; exact hl a ha)).1
  have h3:decide ((bN x).depth≤63)=true:=by have:=hx.dp; simp; omega
  rw [h1,h2,h3]
  simp only [N9,if_true]
  rw [ls]
  congr 1
  clear h1 h2 h3 hl hx
  induction l with
  | nil=>rfl
  | cons a l ih =>
   simp only [y_,LU]
   rw [hp a g_,ih fun b hb=>hp b (l_ _ hb)]
 have e0:∀ ys,inL x ys=none:=fun ys=>by unfold inL; rw [hf]; rfl
 have n1:w5 x (.lst (l.map en))=none:=by cases x <;> first | exact e0 _ | rfl
 have n2:w5 x (.tup (l.map en))=none:=by cases x <;> first | exact e0 _ | rfl
 refine ⟨?_,?_,?_,?_⟩ <;> simp [inX,cH,Be,n1,n2,e]
end FD
namespace G
open PySem PySem.Spec PyProof.Rows L2 FD
theorem Ct {n:Nat} {B:FnS} {ds:List Dv} {d:Dv} (h:B (ds.map some ++ q_ (n - ds.length) none)=some (.rt d)):j4 n B ds=some (.ok d):=by unfold j4; rw [h]
theorem zp {n:Nat} {B:FnS} {ds:List Dv} {c:Nat} (h:B (ds.map some ++ q_ (n - ds.length) none)=some (.exc c)):j4 n B ds=some (.exc c):=by unfold j4; rw [h]
theorem cE (F:List Dv→Option (Rs Dv)) {n:Nat} {g:FnA} {ρ:Ev} {ds:List Dv} {r:Option (Rs Dv)} (h:g ρ=some (.ok ds)) (hl:ds.length=n) (hF:F ds=r):aZ F n g ρ=r:=by
 unfold aZ
 rw [h,← hF]
 exact if_pos hl
theorem GQ {v:FnE} {ρ:Ev} {c:Nat} (h:v ρ=some (.exc c)):cC v ρ=some (.exc c):=by unfold cC; rw [h]; rfl
theorem zq {a b:FnS} {ρ:Ev} {c:Nat} (h:a ρ=some (.exc c)):aE a b ρ=some (.exc c):=by unfold aE; rw [h]; rfl
theorem yH (ns:List Int) (hl:ns.length≤63) (k:Int):∃ c,bw [.scr ns,.int k]=some (.ok (.int c)):=by
 cases ns with
 | nil=>exact ⟨7 * k,by kernel_rfl⟩
 | cons n r =>
  have h0:0 < (n :: r).length:=by simp
  have h1:(0:Int) < ((n :: r).length:Int):=by omega
  have h2:((n :: r).length:Int) < 1073741824:=by omega
  have h3:0≤k % ((n :: r).length:Int):=JG _ (by omega)
  have h4:k % ((n :: r).length:Int) < ((n :: r).length:Int):=IJ _ h1
  have h5:(k % ((n :: r).length:Int)).toNat < (n :: r).length:=by omega
  refine ⟨(n :: r)[(k % ((n :: r).length:Int)).toNat] + 6553 * (k / ((n :: r).length:Int)),?_⟩
  have hat:atD (n :: r) (k % ((n :: r).length:Int))=some (n :: r)[(k % ((n :: r).length:Int)).toNat]:=by
   unfold atD
   rw [if_pos h3,u_ h5]
  have hm:eX (.int k) (.int ((n :: r).length:Int))=some (.ok (.int (k % ((n :: r).length:Int)))):=by
   show (if 0 < ((n :: r).length:Int) then _ else _)=_
   rw [if_pos h1]
  have hd:fk (.int k) (.int ((n :: r).length:Int))=some (.ok (.int (k / ((n :: r).length:Int)))):=by
   show (if 0 < ((n :: r).length:Int)∧((n :: r).length:Int) < 1073741824 then _ else _)=_
   rw [if_pos ⟨h1,h2⟩]
  have hi:ixD (.scr (n :: r)) (.int (k % ((n :: r).length:Int)))=some (.ok (.int (n :: r)[(k % ((n :: r).length:Int)).toNat])):=by
   show (match atD (n :: r) (k % ((n :: r).length:Int)) with | some d=>_ | none=>_)=_
   rw [hat]
  show (match cr [some (.scr (n :: r)),some (.int k)] with | some (.nx _)=>_ | some (.rt d)=>_ | _=>_)=_
  have e:cr [some (.scr (n :: r)),some (.int k)]=cB (bnd (bnd (eX (.int k) (.int ((n :: r).length:Int))) fun i=>ixD (.scr (n :: r)) i) fun x=>bnd (bnd (fk (.int k) (.int ((n :: r).length:Int))) fun q=>fj (.int 6553) q) fun y=>ef x y) fun d=>some (.rt d):=by kernel_rfl
  rw [e,hm,hd]
  show (match cB (bnd (ixD (.scr (n :: r)) (.int (k % ((n :: r).length:Int)))) fun x=>_) _ with | some (.nx _)=>_ | some (.rt d)=>_ | _=>_)=_
  rw [hi]
  kernel_rfl
def dr1 (c k:Int):Int:=(c % 2147483563 * 69069 + 104723 * (k + 1)) % 2147483563
def dr2 (c:Int):Int:=(c * c + c / 3) % 2147483399
def dr3 (c m:Int):Int:=(c * c + c / 7) % 2147483647 / 11 % m
theorem jc {i j:Int} (h:(-18446744073709551616 < i∧i < 18446744073709551616)∨(-18446744073709551616 < j∧j < 18446744073709551616)):fj (.int i) (.int j)=some (.ok (.int (i * j))):=by
 show (if _ then _ else _)=_
 rw [if_pos h]
theorem lu {i j:Int} (h:0 < j):eX (.int i) (.int j)=some (.ok (.int (i % j))):=by
 show (if _ then _ else _)=_
 rw [if_pos h]
theorem aU (ns:List Int) (hl:ns.length≤63) (k m:Int) (hm:0 < m):∃ d:Int,0≤d∧d < m∧ag [.scr ns,.int k,.int m]=some (.ok (.int d)):=by
 obtain ⟨c,hc⟩:=yH ns hl k
 refine ⟨dr3 (dr2 (dr1 c k)) m,JG _ (by omega),IJ _ hm,?_⟩
 have b1:0≤dr1 c k∧dr1 c k < 2147483563:=⟨JG _ (by omega),IJ _ (by omega)⟩
 have b2:0≤dr2 (dr1 c k)∧dr2 (dr1 c k) < 2147483399:=⟨JG _ (by omega),IJ _ (by omega)⟩
 have b0:0≤c % 2147483563∧c % 2147483563 < 2147483563:=⟨JG _ (by omega),IJ _ (by omega)⟩
 show bg 4 bB [.scr ns,.int k,.int m]=_
 have s1:(ai bw 2 (aa (ac 0) (aa (ac 1) ah))) [some (.scr ns),some (.int k),some (.int m),none]=some (.ok (.int c)):=by
  show (match bw [.scr ns,.int k] with | some (.ok d)=>(some (.ok d):Option (Rs Dv)) | _=>none)=_
  rw [hc]
 have e1:(bn 3 (f2 eX (f2 ef (f2 fj (f2 eX (ai bw 2 (aa (ac 0) (aa (ac 1) ah))) (fC (.int 2147483563))) (fC (.int 69069))) (f2 fj (fC (.int 104723)) (f2 ef (ac 1) (fC (.int 1))))) (fC (.int 2147483563)))) [some (.scr ns),some (.int k),some (.int m),none]=some (.nx [some (.scr ns),some (.int k),some (.int m),some (.int (dr1 c k))]):=by
  show cB (bnd (bnd (bnd (bnd ((ai bw 2 (aa (ac 0) (aa (ac 1) ah))) [some (.scr ns),some (.int k),some (.int m),none]) fun x=>eX x (.int 2147483563)) fun x=>fj x (.int 69069)) fun x=>bnd (fj (.int 104723) (.int (k + 1))) fun y=>ef x y) fun x=>eX x (.int 2147483563)) (fun d=>some (.nx [some (.scr ns),some (.int k),some (.int m),some d]))=_
  rw [s1]
  show cB (bnd (bnd (bnd (eX (.int c) (.int 2147483563)) fun x=>fj x (.int 69069)) fun x=>bnd (fj (.int 104723) (.int (k + 1))) fun y=>ef x y) fun x=>eX x (.int 2147483563)) _=_
  rw [lu (by omega),jc (i:=104723) (.inl (by omega))]
  show cB (bnd (bnd (fj (.int (c % 2147483563)) (.int 69069)) fun x=>ef x (.int (104723 * (k + 1)))) fun x=>eX x (.int 2147483563)) _=_
  rw [jc (.inl (by omega))]
  show cB (eX (.int (c % 2147483563 * 69069 + 104723 * (k + 1))) (.int 2147483563)) _=_
  rw [lu (by omega)]
  rfl
 generalize hd1:dr1 c k=d1 at *
 have e2:(bn 3 (f2 eX (f2 ef (f2 fj (ac 3) (ac 3)) (f2 fk (ac 3) (fC (.int 3)))) (fC (.int 2147483399)))) [some (.scr ns),some (.int k),some (.int m),some (.int d1)]=some (.nx [some (.scr ns),some (.int k),some (.int m),some (.int (dr2 d1))]):=by
  show cB (bnd (bnd (fj (.int d1) (.int d1)) fun x=>ef x (.int (d1 / 3))) fun x=>eX x (.int 2147483399)) (fun d=>some (.nx [some (.scr ns),some (.int k),some (.int m),some d]))=_
  rw [jc (.inl (by omega))]
  show cB (eX (.int (d1 * d1 + d1 / 3)) (.int 2147483399)) _=_
  rw [lu (by omega)]
  rfl
 generalize hd2:dr2 d1=d2 at *
 have e3:(aI (f2 eX (f2 fk (f2 eX (f2 ef (f2 fj (ac 3) (ac 3)) (f2 fk (ac 3) (fC (.int 7)))) (fC (.int 2147483647))) (fC (.int 11))) (ac 2))) [some (.scr ns),some (.int k),some (.int m),some (.int d2)]=some (.rt (.int (dr3 d2 m))):=by
  show cB (bnd (bnd (bnd (bnd (fj (.int d2) (.int d2)) fun x=>ef x (.int (d2 / 7))) fun x=>eX x (.int 2147483647)) fun x=>fk x (.int 11)) fun x=>eX x (.int m)) (fun d=>some (.rt d))=_
  rw [jc (.inl (by omega))]
  show cB (bnd (bnd (eX (.int (d2 * d2 + d2 / 7)) (.int 2147483647)) fun x=>fk x (.int 11)) fun x=>eX x (.int m)) _=_
  rw [lu (by omega)]
  show cB (eX (.int ((d2 * d2 + d2 / 7) % 2147483647 / 11)) (.int m)) _=_
  rw [lu hm]
  rfl
 show (match bB [some (.scr ns),some (.int k),some (.int m),none] with | some (.nx _)=>_ | some (.rt d)=>_ | _=>_)=_
 have e:bB [some (.scr ns),some (.int k),some (.int m),none]=some (.rt (.int (dr3 d2 m))):=by
  show sq ((bn 3 _) _) (fun ρ=>sq ((bn 3 _) ρ) _)=_
  rw [e1]
  show sq ((bn 3 _) [some (.scr ns),some (.int k),some (.int m),some (.int d1)]) _=_
  rw [e2]
  exact e3
 rw [e]
def menu:List Str:=[a_ "a.b",a_ "b",a_ "x.a.b",a_ "y.x.a.b",a_ "c.uk",a_ "uk",a_ "d.c.uk",a_ "e.d.c.uk",a_ "w.ck",a_ "v.w.ck",a_ "ck",a_ "g-1.a.b",a_ "7.b",a_ "p.q"]
def okO (o:Option (Rs Dv)):Option (Rs Dv):=match o with
 | some (.ok d)=>some (.ok d)
 | _=>none
theorem yI (ns:List Int) (hl:ns.length≤63) (k:Int):∃ p∈menu,cu [.scr ns,.int k]=some (.ok (.str p)):=by
 obtain ⟨d,h0,h1,hd⟩:=aU ns hl k 14 (by omega)
 have e:cu [.scr ns,.int k]=(match cB (bnd (match ag [.scr ns,.int k,.int 14] with | some (.ok d)=>(some (.ok d):Option (Rs Dv)) | _=>none) fun i=>ixD (.lst (menu.map Dv.str)) i) fun d=>some (.rt d) with
  | some (.nx _)=>some (.ok .non)
  | some (.rt d)=>some (.ok d)
  | _=>none):=by kernel_rfl
 rw [e,hd]
 have hc:d=0∨d=1∨d=2∨d=3∨d=4∨d=5∨d=6∨d=7∨d=8∨d=9∨d=10∨d=11∨d=12∨d=13:=by omega
 rcases hc with rfl | rfl | rfl | rfl | rfl | rfl | rfl | rfl | rfl | rfl | rfl | rfl | rfl | rfl
 · exact ⟨a_ "a.b",by simp [menu],by kernel_rfl⟩
 · exact ⟨a_ "b",by simp [menu],by kernel_rfl⟩
 · exact ⟨a_ "x.a.b",by simp [menu],by kernel_rfl⟩
 · exact ⟨a_ "y.x.a.b",by simp [menu],by kernel_rfl⟩
 · exact ⟨a_ "c.uk",by simp [menu],by kernel_rfl⟩
 · exact ⟨a_ "uk",by simp [menu],by kernel_rfl⟩
 · exact ⟨a_ "d.c.uk",by simp [menu],by kernel_rfl⟩
 · exact ⟨a_ "e.d.c.uk",by simp [menu],by kernel_rfl⟩
 · exact ⟨a_ "w.ck",by simp [menu],by kernel_rfl⟩
 · exact ⟨a_ "v.w.ck",by simp [menu],by kernel_rfl⟩
 · exact ⟨a_ "ck",by simp [menu],by kernel_rfl⟩
 · exact ⟨a_ "g-1.a.b",by simp [menu],by kernel_rfl⟩
 · exact ⟨a_ "7.b",by simp [menu],by kernel_rfl⟩
 · exact ⟨a_ "p.q",by simp [menu],by kernel_rfl⟩
def pth0 : List Str := [a_ "/", a_ "/x", a_ "/x/", a_ "/x/y", a_ "/xy", a_ "/x/y/z.q", a_ "//", a_ "/-_.9", a_ "/x/y/"]
def pths:List Str:=pth0 ++ [a_ "/y",a_ "/z"]
theorem yJ (ns:List Int) (hl:ns.length≤63) (k:Int):∃ p∈pths,cw [.scr ns,.int k]=some (.ok (.str p)):=by
 obtain ⟨d,h0,h1,hd⟩:=aU ns hl k 9 (by omega)
 have e:cw [.scr ns,.int k]=(match cB (bnd (match ag [.scr ns,.int k,.int 9] with | some (.ok d)=>(some (.ok d):Option (Rs Dv)) | _=>none) fun i=>ixD (.lst (pth0.map Dv.str)) i) fun d=>some (.rt d) with
  | some (.nx _)=>some (.ok .non)
  | some (.rt d)=>some (.ok d)
  | _=>none):=by kernel_rfl
 rw [e,hd]
 have hc:d=0∨d=1∨d=2∨d=3∨d=4∨d=5∨d=6∨d=7∨d=8:=by omega
 rcases hc with rfl | rfl | rfl | rfl | rfl | rfl | rfl | rfl | rfl
 · exact ⟨a_ "/",by simp [pths,pth0],by kernel_rfl⟩
 · exact ⟨a_ "/x",by simp [pths,pth0],by kernel_rfl⟩
 · exact ⟨a_ "/x/",by simp [pths,pth0],by kernel_rfl⟩
 · exact ⟨a_ "/x/y",by simp [pths,pth0],by kernel_rfl⟩
 · exact ⟨a_ "/xy",by simp [pths,pth0],by kernel_rfl⟩
 · exact ⟨a_ "/x/y/z.q",by simp [pths,pth0],by kernel_rfl⟩
 · exact ⟨a_ "//",by simp [pths,pth0],by kernel_rfl⟩
 · exact ⟨a_ "/-_.9", by simp [pths, pth0], by kernel_rfl⟩
 · exact ⟨a_ "/x/y/",by simp [pths,pth0],by kernel_rfl⟩
theorem sv (F:List Dv→Option (Rs Dv)) {f g k:FnE} {ρ:Ev} {a b c d:Dv} (h:f ρ=some (.ok a)) (h':g ρ=some (.ok b)) (h'':k ρ=some (.ok c)) (hF:F [a,b,c]=some (.ok d)):ai F 3 (aa f (aa g (aa k ah))) ρ=some (.ok d):=aR (ae h (ae h' (ae h'' ar))) rfl hF
abbrev bo (k:Bool):Option (Rs Dv):=some (.ok (.bl k))
def En:List Str:=menu
theorem vv {x y:Str} (h:seq x y=true):x=y:=by
 unfold seq at h
 obtain ⟨⟨a⟩⟩:=x; obtain ⟨⟨b⟩⟩:=y
 simp at h
 rw [h]
def okY:Option (Rs Dv)→Bool
 | some (.ok (.bl true))=>true
 | _=>false
theorem lv {o:Option (Rs Dv)} (h:okY o=true):o=some (.ok (.bl true)):=by
 unfold okY at h; split at h
 · rfl
 · cases h
def nms:List Str:=[a_ "n",a_ "m-1",a_ "safe-a",a_ "N_2"]
def wts:List Str:=[a_ "5",a_ "",a_ "a!b~"]
theorem Cu:(nms.all fun n=>okY (bu [.str n]))=true:=by kernel_rfl
theorem Cv:(wts.all fun n=>okY (c5 [.str n]))=true:=by kernel_rfl
theorem Cw:(En.all fun n=>okY (bW [.str n]))=true:=by kernel_rfl
theorem Cy:(pths.all fun n=>okY (dJ [.str n]))=true:=by kernel_rfl
theorem GR {n:Str} (h:n∈nms):bu [.str n]=bo true:=lv (bY (p:=fun n=>okY (bu [.str n])) Cu h)
theorem GS {n:Str} (h:n∈wts):c5 [.str n]=bo true:=lv (bY (p:=fun n=>okY (c5 [.str n])) Cv h)
theorem GT {n:Str} (h:n∈En):bW [.str n]=bo true:=lv (bY (p:=fun n=>okY (bW [.str n])) Cw h)
theorem GU {n:Str} (h:n∈pths):dJ [.str n]=bo true:=lv (bY (p:=fun n=>okY (dJ [.str n])) Cy h)
theorem me {h:Str} (q:h∈menu):h∈En:=q
theorem oh {l:List Dv} {d:Int} (h0:0≤d) (h1:d < l.length):∃ x∈l,ixD (.lst l) (.int d)=some (.ok x):=by
 have h2:d.toNat < l.length:=by omega
 refine ⟨l[d.toNat],Ju h2,?_⟩
 show (match atD l d with | some d=>_ | none=>_)=_
 unfold atD
 rw [if_pos h0,u_ h2]
theorem Fp (i:Int):bx [.int i]=bo (decide (0≤i) && decide (i≤9999)):=by
 have e:ax [.int i,.int 0,.int 9999]=bo (decide (0≤i) && decide (i≤9999)):=by
  by_cases h0:0≤i
  · simp [ax,bg,aO,aE,sq,bP,aI,cB,bnd,bOr,di,fB,toB,ac,f1,f2,gw,dW,bM,eG,leX,h0]
  · simp [ax,bg,aO,aE,sq,bP,aI,cB,bnd,bOr,di,fB,toB,ac,f1,f2,gw,dW,bM,eG,leX,h0]
 simp [bx,bg,dc,aI,cB,bnd,ai,aa,ah,ac,fC,e]
theorem yK {i:Int} (h0:0≤i) (h1:i≤9999):bx [.int i]=bo true:=by
 rw [Fp]; simp [h0,h1]
def Mo (u:Dv):Prop:=u=.non∨∃ i:Int,0≤i∧i≤9999∧u=.int i
theorem Cz {u:Dv} (h:Mo u):aF [u]=bo true:=by
 rcases h with rfl | ⟨i,h0,h1,rfl⟩
 · simp [aF,bg,aQ,aI,cB,bnd,toB,ac,fC,f2,vOr,isN]
 · simp [aF,bg,aQ,aI,cB,bnd,toB,ai,aa,ah,ac,fC,f2,vOr,isN,yK h0 h1]
theorem yL {R:Str} (h:R=a_ "any"∨R=a_ "near"):fY [.str R]=bo true∧∃ r,eqX (.str R) (.str "any")=bo r∧eqX (.str R) (.str "near")=bo (!r):=by
 rcases h with rfl | rfl
 · exact ⟨by kernel_rfl,true,by kernel_rfl,by kernel_rfl⟩
 · exact ⟨by kernel_rfl,false,by kernel_rfl,by kernel_rfl⟩
structure aB where
 nm:Str
 w:Str
 house:Str
 ex:Bool
 path:Str
 ends:Option Int
 S:Bool
 R:Str
 md:Int
 us:Int
deriving DecidableEq
def eO:Option Int→Dv
 | none=>.non
 | some i=>.int i
def enc (n:aB):Dv:=.tup [.str n.nm,.str n.w,.str n.house,.bl n.ex,.str n.path,eO n.ends,.bl n.S,.str n.R,.int n.md,.int n.us]
def ek (n:aB):Dv:=.tup [.str n.nm,.str n.house,.str n.path]
def key (n:aB):List Str:=[n.nm,n.house,n.path]
structure Good (n:aB):Prop where
 nm:n.nm∈nms
 w:n.w∈wts
 house:n.house∈En
 path:n.path∈pths
 R:n.R=a_ "any"∨n.R=a_ "near"
 ends:∀ i,n.ends=some i→0≤i∧i≤59
 mk0:0≤n.md
 mu:n.md≤n.us
 us:n.us≤39
theorem Fq {n:aB} (g:Good n):Mo (eO n.ends):=by
 cases h:n.ends with
 | none=>exact .inl rfl
 | some i=>exact .inr ⟨i,(g.ends i h).1,by have:=(g.ends i h).2; omega,rfl⟩
theorem CB {n:aB} (g:Good n):cz [enc n]=bo true:=by
 have e0:df [enc n,.int 10]=bo true:=by kernel_rfl
 have e1:=yK g.mk0 (by have:=g.mu; have:=g.us; omega)
 have e2:=yK (Int.le_trans g.mk0 g.mu) (by have:=g.us; omega)
 have e3:aF [eO n.ends]=bo true:=Cz (Fq g)
 unfold enc at e0 ⊢
 simp [cz,bg,fJ,aE,sq,bP,aI,cB,bnd,bOr,di,fB,toB,ai,aa,ah,ac,fC,f1,f2,ixD,atD,cM,fB1,dW,bM,e0,e1,e2,GR g.nm,GS g.w,GT g.house,GU g.path,e3,(yL g.R).1,lM,jv,leX,g.mu]
def signs0:List Str:=nms ++ (wts ++ (En ++ (pths ++ [a_ "any",a_ "near"])))
theorem yM:(signs0.all fun x=>HQ (.str x))=true:=by kernel_rfl
theorem jS {x:Str} (h:x∈signs0):HQ (.str x)=true:=bY (p:=fun x=>HQ (.str x)) yM h
theorem Ft (o:Option Int):It1 0 (eO o):=by cases o; exact Cr; exact lr
theorem Good.sR {n:aB} (g:Good n):n.R∈signs0:=by
 unfold signs0
 rcases g.R with h | h <;> rw [h] <;> simp
theorem oi {n:aB} (g:Good n):It1 1 (enc n):=by
 refine lq (k:=0) fun d hd=>?_
 simp only [on,Hn,or_false] at hd
 rcases hd with rfl | rfl | rfl | rfl | rfl | rfl | rfl | rfl | rfl | rfl
 · exact et (jS (by simp [signs0,g.nm]))
 · exact et (jS (by simp [signs0,g.w]))
 · exact et (jS (by simp [signs0,g.house]))
 · exact Cq
 · exact et (jS (by simp [signs0,g.path]))
 · exact Ft _
 · exact Cq
 · exact et (jS g.sR)
 · exact lr
 · exact lr
theorem CF {n:aB} (g:Good n):It1 1 (ek n):=by
 refine lq (k:=0) fun d hd=>?_
 simp only [on,Hn,or_false] at hd
 rcases hd with rfl | rfl | rfl
 · exact et (jS (by simp [signs0,g.nm]))
 · exact et (jS (by simp [signs0,g.house]))
 · exact et (jS (by simp [signs0,g.path]))
theorem CG (a b:aB):HZ (bN (ek a)) (bN (ek b))=decide (key a=key b):=by
 rw [HG]
 simp [ek,key,bN,toPys,HZ,JR]
theorem CH (a b:Option Int):HZ (bN (eO a)) (bN (eO b))=decide (a=b):=by
 cases a <;> cases b <;> simp [eO,bN,HZ]
 rw [HG]; simp
theorem yN (a b:aB):HZ (bN (enc a)) (bN (enc b))=decide (a=b):=by
 rw [HG]
 have e:=CH a.ends b.ends
 cases a; cases b
 simp [enc,bN,toPys,HZ,JR,e]
theorem Fu {a b:aB} (ga:Good a) (gb:Good b):eqX (ek a) (ek b)=bo (decide (key a=key b))∧neX (ek a) (ek b)=bo (!decide (key a=key b)):=by
 have h1:=(CF ga).okP (by omega)
 have h2:=(CF gb).okP (by omega)
 have h3:=CG a b
 have h0:eqS (ek a) (ek b)=none:=rfl
 constructor
 · unfold eqX; rw [h0,h1,h2,h3]; rfl
 · unfold neX; rw [h0,h1,h2,h3]; rfl
def ej (js:List aB):Dv:=.tup (js.map enc)
structure Jar (js:List aB):Prop where
 g:∀ n∈js,Good n
 s:∀ i (h:i + 1 < js.length),js[i].md≤js[i + 1].md
 k:(js.map key).Nodup
 l:js.length≤18
theorem lx {α β:Type} {o:Option (Rs α)} {a:α} {k:α→Option (Rs β)} (h:o=some (.ok a)):bnd o k=k a:=by rw [h]; rfl
theorem jT:∀ (n:Nat) (lo:Int),rng lo n=(h_ n).map fun i:Nat=>Dv.int (lo + (i:Int))
 | 0,lo=>rfl
 | n + 1,lo=>by
  rw [Kp]
  show Dv.int lo :: rng (lo + 1) n=_
  rw [jT n (lo + 1)]
  simp only [y_,IC]
  congr 1
  · simp
  · congr 1
    funext i
    simp only [PH]
    congr 1
    omega
theorem sw {f g:iG} {ρ ρ':Ev} {ds ds':List Dv} (h:f ρ ds=some (.nx ρ' ds')):eE f g ρ ds=g ρ' ds':=by unfold eE; rw [h]
theorem yO {xs:List Dv} {i:Nat} {ρ:Ev} (h:ρ[i]?=some (some (.lst xs))):bZ (ac i) ρ=some (.ok xs):=by
 unfold bZ ac
 rw [h]
 rfl
theorem gh {js:List aB} {i:Nat} {ρ:Ev} (h:ρ[i]?=some (some (ej js))):bZ (ac i) ρ=some (.ok (js.map enc)):=by
 unfold bZ ac
 rw [h]
 rfl
theorem yP {xs:List aB} (hg:∀ o∈xs,Good o):It1 2 (.lst (xs.map enc)):=su fun d hd=>by
 obtain ⟨x,hx,rfl⟩:=Iv.mp hd
 exact oi (hg x hx)
theorem yQ {xs:List aB} (hg:∀ o∈xs,Good o):It1 2 (ej xs):=lq fun d hd=>by
 obtain ⟨x,hx,rfl⟩:=Iv.mp hd
 exact oi (hg x hx)
theorem nil_eq {xs:List aB} (hg:∀ o∈xs,Good o):eqX (.lst (xs.map enc)) (.lst [])=bo xs.isEmpty:=by
 cases xs with
 | nil=>kernel_rfl
 | cons o rest =>
  have i2:=(yP hg).okP (by omega)
  have i3:okP (.lst [])=true:=by kernel_rfl
  unfold eqX
  rw [show eqS (.lst ((o :: rest).map enc)) (.lst [])=none from rfl,i2,i3]
  simp [bN,toPys,HZ,JR]
theorem ly:∀ l:List Int,imms (l.map Dv.int)=true
 | []=>rfl
 | i :: l=>by show (imm (.int i) && imms (l.map Dv.int))=true; rw [ly l]; rfl
theorem sx (a b:Int):ci (.int a) (.int b)=some (.ok (.int (a + b))):=rfl
structure JI (B:Nat) (js:List aB) (now:Int):Prop where
 g:∀ n∈js,Good n
 s:js.Pairwise fun a b=>a.md≤b.md
 k:(js.map key).Nodup
 l:js.length≤B
 n0:0≤now
 n1:now≤3 * B
 m:∀ n∈js,n.md≤now
theorem JI.keep {B:Nat} {js:List aB} {now d:Int} (J:JI B js now) (h0:0≤d) (h1:d < 4):JI (B + 1) js (now + d) :=
 ⟨J.g,J.s,J.k,by have:=J.l; omega,by have:=J.n0; omega,by have:=J.n1; omega,fun n hn=>by have:=J.m n hn; omega⟩
theorem JI.add {B:Nat} {js:List aB} {now d:Int} {n:aB} (J:JI B js now) (h0:0≤d) (h1:d < 4) (g:Good n) (hm:n.md=now + d) (hf:js.filter (fun o=>decide (key o=key n))=[]):JI (B + 1) (js ++ [n]) (now + d):=by
 have hk:∀ o∈js,key o≠key n:=fun o ho e=>by
  have:o∈js.filter (fun o=>decide (key o=key n)):=HU.mpr ⟨ho,by simp [e]⟩
  rw [hf] at this; cases this
 refine ⟨fun x hx=>?_,?_,?_,by have:=J.l; simp; omega,by have:=J.n0; omega,by have:=J.n1; omega,fun x hx=>?_⟩
 · rcases HC.mp hx with h | h
   · exact J.g x h
   · rw [Ih.mp h]; exact g
 · refine List.pairwise_append.mpr ⟨J.s,List.pairwise_singleton ..,fun a ha b hb=>?_⟩
   rw [Ih.mp hb,hm]
   have:=J.m a ha
   omega
 · rw [K_]
   refine List.nodup_append.mpr ⟨J.k,by simp,fun a ha b hb e=>?_⟩
   obtain ⟨o,ho,rfl⟩:=Iv.mp ha
   simp only [y_,List.map_nil,Ih] at hb
   exact hk o ho (e.trans hb)
 · rcases HC.mp hx with h | h
   · have:=J.m x h; omega
   · rw [Ih.mp h,hm]; omega
theorem JI.jar {B:Nat} {js:List aB} {now:Int} (J:JI B js now) (hB:B≤18):Jar js :=
 ⟨J.g,fun i h=>KW.mp J.s i (i + 1) (by omega) h (by omega),J.k,by have:=J.l; omega⟩
def jb (ns:List Int) (z m now:Int):Ev:=[some (.scr ns),some (.int z),some (.int m),none,some (.int now),none,none,none,none,none,none,none,none,none,none,none]
def cJ:FnB:=(fB (f2 eqX (bh [("_law_note",15)] (bZ (ac 3)) (some (fB (f2 eqX (cD (aa (f2 ixD (ac 0) (fC (.int 0))) (aa (f2 ixD (ac 0) (fC (.int 2))) (aa (f2 ixD (ac 0) (fC (.int 4))) ah)))) (cD (aa (f2 ixD (ac 1) (fC (.int 0))) (aa (f2 ixD (ac 1) (fC (.int 2))) (aa (f2 ixD (ac 1) (fC (.int 4))) ah))))))) (ac 0)) (cM ah)))
theorem Fv {js:List aB} {n:aB} {ρ:Ev} (hg:∀ o∈js,Good o) (gn:Good n) (hl:js.length≤18) (h3:ρ[3]?=some (some (.lst (js.map enc)))) (h15:ρ[15]?=some (some (enc n))):cJ ρ=some (.ok (js.filter (fun o=>decide (key o=key n))).isEmpty):=by
 have hc:vQ [("_law_note",15)] ρ=[none,some (enc n)]:=by simp [vQ,h15]
 have e1:=ll (cs:=[("_law_note",15)]) (src:=bZ (ac 3)) (tst:=(fB (f2 eqX (cD (aa (f2 ixD (ac 0) (fC (.int 0))) (aa (f2 ixD (ac 0) (fC (.int 2))) (aa (f2 ixD (ac 0) (fC (.int 4))) ah)))) (cD (aa (f2 ixD (ac 1) (fC (.int 0))) (aa (f2 ixD (ac 1) (fC (.int 2))) (aa (f2 ixD (ac 1) (fC (.int 4))) ah))))))) (elt:=ac 0) (ρ:=ρ) enc (fun o=>decide (key o=key n)) enc (yO h3) (by omega) fun o ho=>⟨by
  rw [hc]
  exact dt ((aY (x:=ek o) (y:=ek n) rfl rfl).trans (Fu (hg o ho) gn).1),by rw [hc]; rfl⟩
 exact dt ((aY e1 rfl).trans (nil_eq fun o ho=>hg o (HU.mp ho).1))
theorem sy (ns:List Int) (hl:ns.length≤63) (z m now k:Int) {B:Nat} {js:List aB} (J:JI B js now) (hB:B≤10) :
 ∃ ρ' js' now',aN ((jb ns z m now).set 5 (some (.int k))) (js.map enc)=some (.nx ρ' (js'.map enc))∧fgt [5,6,7,8,9,10,11,12,13,14,15] ρ'=jb ns z m now'∧JI (B + 1) js' now':=by
 obtain ⟨here,hh⟩:∃ here,here=z + 1 + 14 * k:=⟨_,rfl⟩
 obtain ⟨d0,a0,b0,e0⟩:=aU ns hl here 4 (by omega)
 obtain ⟨d1,a1,b1,e1⟩:=aU ns hl (here + 1) 4 (by omega)
 obtain ⟨d2,a2,b2,e2⟩:=aU ns hl (here + 2) 3 (by omega)
 obtain ⟨d4,a4,b4,e4⟩:=aU ns hl (here + 4) 2 (by omega)
 obtain ⟨d6,a6,b6,e6⟩:=aU ns hl (here + 6) 2 (by omega)
 obtain ⟨d7,a7,b7,e7⟩:=aU ns hl (here + 7) 60 (by omega)
 obtain ⟨d8,a8,b8,e8⟩:=aU ns hl (here + 8) 2 (by omega)
 obtain ⟨d9,a9,b9,e9⟩:=aU ns hl (here + 9) 3 (by omega)
 obtain ⟨d10,a10,b10,e10⟩:=aU ns hl (here + 10) 5 (by omega)
 obtain ⟨n3,hn3,e3⟩:=yI ns hl (here + 3)
 obtain ⟨p5,hp5,e5⟩:=yJ ns hl (here + 5)
 obtain ⟨x1,m1,i1⟩:=oh (l:=[.str "n",.str "m-1",.str "safe-a",.str "N_2"]) a1 b1
 obtain ⟨x2,m2,i2⟩:=oh (l:=[.str "5",.str "",.str "a!b~"]) a2 b2
 obtain ⟨x6,m6,i6⟩:=oh (l:=[.non,.int d7]) a6 b6
 obtain ⟨x9,m9,i9⟩:=oh (l:=[.str "any",.str "any",.str "near"]) a9 b9
 have g1:∃ nm∈nms,x1=.str nm:=by
  simp only [on,Hn,or_false] at m1
  rcases m1 with rfl | rfl | rfl | rfl <;> exact ⟨_,by simp [nms],rfl⟩
 have g2:∃ nm∈wts,x2=.str nm:=by
  simp only [on,Hn,or_false] at m2
  rcases m2 with rfl | rfl | rfl <;> exact ⟨_,by simp [wts],rfl⟩
 have g6:∃ o:Option Int,(∀ i,o=some i→0≤i∧i≤59)∧x6=eO o:=by
  simp only [on,Hn,or_false] at m6
  rcases m6 with rfl | rfl
  · exact ⟨none,by simp,rfl⟩
  · exact ⟨some d7,fun i hi=>by cases hi; omega,rfl⟩
 have g9:∃ R,(R=a_ "any"∨R=a_ "near")∧x9=.str R:=by
  simp only [on,Hn,or_false] at m9
  rcases m9 with rfl | rfl | rfl
  · exact ⟨_,.inl rfl,rfl⟩
  · exact ⟨_,.inl rfl,rfl⟩
  · exact ⟨_,.inr rfl,rfl⟩
 obtain ⟨nm,hnm,rfl⟩:=g1
 obtain ⟨w,hw,rfl⟩:=g2
 obtain ⟨o,ho,rfl⟩:=g6
 obtain ⟨R,hR,rfl⟩:=g9
 let n:aB:=⟨nm,w,n3,d4 == 0,p5,o,d8 == 0,R,now + d0,now + d0 + d10⟩
 have q0:=J.n0
 have q1:=J.n1
 have gn:Good n:=⟨hnm,hw,me hn3,hp5,hR,ho,by show 0≤now + d0; omega,by show now + d0≤now + d0 + d10; omega,by show now + d0 + d10≤39; omega⟩
 let E15:Ev:=[some (.scr ns),some (.int z),some (.int m),none,some (.int (now + d0)),some (.int k),some (.int here),some (.str nm),some (.str w),some (eO o),some (.bl (d4 == 0)),some (.tup [.str nm,.str w,.str n3,.bl (d4 == 0),.str p5]),some (.str R),some (.bl (d8 == 0)),some (.int (now + d0 + d10)),some (enc n)]
 have hc:=Fv (ρ:=E15.set 3 (some (.lst (js.map enc)))) J.g gn (by have:=J.l; omega) rfl rfl
 have hmul:fj (.int 14) (.int k)=some (.ok (.int (14 * k))):=jc (.inl (by omega))
 have hrun:aN ((jb ns z m now).set 5 (some (.int k))) (js.map enc)=xJ 3 cJ (zj (ac 15)) Du E15 (js.map enc):=by
  have eB:aN=(eE (fq 6 (f2 ci (f2 ci (ac 1) (fC (.int 1))) (f2 fj (fC (.int 14)) (ac 5)))) (eE (fq 4 (f2 ci (ac 4) (ai ag 3 (aa (ac 0) (aa (ac 6) (aa (fC (.int 4)) ah)))))) (eE (fq 7 (f2 ixD (cM (aa (fC (.str "n")) (aa (fC (.str "m-1")) (aa (fC (.str "safe-a")) (aa (fC (.str "N_2")) ah))))) (ai ag 3 (aa (ac 0) (aa (f2 ci (ac 6) (fC (.int 1))) (aa (fC (.int 4)) ah)))))) (eE (fq 8 (f2 ixD (cM (aa (fC (.str "5")) (aa (fC (.str "")) (aa (fC (.str "a!b~")) ah)))) (ai ag 3 (aa (ac 0) (aa (f2 ci (ac 6) (fC (.int 2))) (aa (fC (.int 3)) ah)))))) (eE (fq 9 (f2 ixD (cM (aa (fC .non) (aa (ai ag 3 (aa (ac 0) (aa (f2 ci (ac 6) (fC (.int 7))) (aa (fC (.int 60)) ah)))) ah))) (ai ag 3 (aa (ac 0) (aa (f2 ci (ac 6) (fC (.int 6))) (aa (fC (.int 2)) ah)))))) (eE (fq 10 (f2 eqX (ai ag 3 (aa (ac 0) (aa (f2 ci (ac 6) (fC (.int 4))) (aa (fC (.int 2)) ah)))) (fC (.int 0)))) (eE (fq 11 (cD (aa (ac 7) (aa (ac 8) (aa (ai cu 2 (aa (ac 0) (aa (f2 ci (ac 6) (fC (.int 3))) ah))) (aa (ac 10) (aa (ai cw 2 (aa (ac 0) (aa (f2 ci (ac 6) (fC (.int 5))) ah))) ah))))))) (eE (fq 12 (f2 ixD (cM (aa (fC (.str "any")) (aa (fC (.str "any")) (aa (fC (.str "near")) ah)))) (ai ag 3 (aa (ac 0) (aa (f2 ci (ac 6) (fC (.int 9))) (aa (fC (.int 3)) ah)))))) (eE (fq 13 (f2 eqX (ai ag 3 (aa (ac 0) (aa (f2 ci (ac 6) (fC (.int 8))) (aa (fC (.int 2)) ah)))) (fC (.int 0)))) (eE (fq 14 (f2 ci (ac 4) (ai ag 3 (aa (ac 0) (aa (f2 ci (ac 6) (fC (.int 10))) (aa (fC (.int 5)) ah)))))) (eE (fq 15 (f2 ci (ac 11) (cD (aa (ac 9) (aa (ac 13) (aa (ac 12) (aa (ac 4) (aa (ac 14) ah)))))))) (xJ 3 cJ (zj (ac 15)) Du)))))))))))):=rfl
  rw [eB]
  subst hh
  simp [jb,eE,fq,zh,bnd,ai,aa,ah,ac,fC,f2,cD,cM,sx,hmul,e0,e1,e2,e3,e4,e5,e6,e7,e8,e9,e10,i1,i2,i6,i9,eqX,eqS,E15,enc,n]
  simp [ci]
 rw [hrun]
 cases hf:(js.filter (fun o=>decide (key o=key n))) with
 | nil =>
  rw [hf] at hc
  refine ⟨E15,js ++ [n],now + d0,?_,rfl,J.add a0 b0 gn rfl hf⟩
  unfold xJ
  rw [hc]
  show (if (js.map enc).length < 100000 then _ else _)=_
  rw [if_pos (by have:=J.l; simp; omega)]
  show some (Fo.nx _ (js.map enc ++ [enc n]))=_
  simp
 | cons c r =>
  rw [hf] at hc
  refine ⟨E15,js,now + d0,?_,rfl,J.keep a0 b0⟩
  unfold xJ
  rw [hc]
  rfl
theorem oj (ns:List Int) (hl:ns.length≤63) (z m:Int):∀ (ks:List Int) (ρ:Ev) (now:Int) (B:Nat) (js:List aB),B + ks.length≤10→fgt [5,6,7,8,9,10,11,12,13,14,15] ρ=jb ns z m now→JI B js now →
 ∃ js' now',kv 5 [5,6,7,8,9,10,11,12,13,14,15] aN (ks.map Dv.int) ρ (js.map enc)=some (.nx (jb ns z m now') (js'.map enc))∧JI (B + ks.length) js' now'
 | [],ρ,now,B,js,_,hρ,J=>⟨js,now,by show some (Fo.nx _ _)=_; rw [hρ],J⟩
 | k :: ks,ρ,now,B,js,hb,hρ,J=>by
  simp only [Il] at hb
  obtain ⟨ρ',js',now',e,hρ',J'⟩:=sy ns hl z m now k J (by omega)
  obtain ⟨js2,now2,e2,J2⟩:=oj ns hl z m ks ρ' now' (B + 1) js' (by omega) hρ' J'
  refine ⟨js2,now2,?_,by rw [Il,show B + (ks.length + 1)=B + 1 + ks.length by omega]; exact J2⟩
  show (match aN ((fgt _ ρ).set 5 (some (.int k))) (js.map enc) with
   | some (.nx ρ' xs')=>kv 5 _ aN (ks.map Dv.int) ρ' xs'
   | o=>o)=_
  rw [hρ,e]
  exact e2
theorem CI (ns:List Int) (hl:ns.length≤63) (z:Int) (m:Nat) (hm:m≤8):∃ js now,dP [.scr ns,.int z,.int m]=some (.ok (ej js))∧Jar js∧js.length≤m∧JI m js now:=by
 obtain ⟨d,a0,b0,e0⟩:=aU ns hl z (m + 1) (by omega)
 obtain ⟨c,rfl⟩:∃ c:Nat,d=(c:Int):=⟨d.toNat,by omega⟩
 have hr:gy [.int (c:Int)]=some (.ok (((h_ c).map fun i:Nat=>(i:Int)).map Dv.int)):=by
  rw [og (by omega),jT]
  simp
 obtain ⟨js,now,e,J⟩:=oj ns hl z m ((h_ c).map fun i:Nat=>(i:Int)) (jb ns z m 0) 0 0 [] (by simp; omega) rfl ⟨by simp,LA,by simp,by simp,by omega,by omega,by simp⟩
 have hlen:((h_ c).map fun i:Nat=>(i:Int)).length=c:=by simp
 rw [hlen] at J
 have J5:=J.l
 refine ⟨js,now,?_,J.jar (by omega),by omega,⟨J.g,J.s,J.k,by omega,J.n0,by have:=J.n1; omega,J.m⟩⟩
 refine dA (d:=ej js) ?_
 show zk 3 ah _ [some (.scr ns),some (.int z),some (.int m),none,none,none,none,none,none,none,none,none,none,none,none,none]=_
 have hsrc:(fun ρ=>bnd ((aa (ai ag 3 (aa (ac 0) (aa (ac 1) (aa (f2 ci (ac 2) (fC (.int 1))) ah)))) ah) ρ) gy) (jb ns z m 0)=some (.ok (((h_ c).map fun i:Nat=>(i:Int)).map Dv.int)):=by
  have h:(aa (ai ag 3 (aa (ac 0) (aa (ac 1) (aa (f2 ci (ac 2) (fC (.int 1))) ah)))) ah) (jb ns z m 0)=some (.ok [.int (c:Int)]):=by
   simp [bnd,aa,ah,ai,fC,ac,f2,jb,sx,e0]
  exact (lx (k:=gy) h).trans hr
 have hfor:xN 5 [5,6,7,8,9,10,11,12,13,14,15] (fun ρ=>bnd ((aa (ai ag 3 (aa (ac 0) (aa (ac 1) (aa (f2 ci (ac 2) (fC (.int 1))) ah)))) ah) ρ) gy) aN (jb ns z m 0) []=some (.nx (jb ns z m now) (js.map enc)):=by
  unfold xN
  rw [hsrc]
  show (if imms (((h_ c).map fun i:Nat=>(i:Int)).map Dv.int)=true then _ else none)=_
  rw [if_pos (ly _)]
  exact e
 have hle:js.length≤100000:=by omega
 have hret:zi 3 (fB1 ei (aa (ac 3) ah)) (jb ns z m now) (js.map enc)=some (.rt (ej js)):=by
  unfold zi
  rw [cF (ae (x:=.lst (js.map enc)) rfl ar)]
  rfl
 have hbody:(eE (fq 4 (fC (.int 0))) (eE (xN 5 [5,6,7,8,9,10,11,12,13,14,15] (fun ρ=>bnd ((aa (ai ag 3 (aa (ac 0) (aa (ac 1) (aa (f2 ci (ac 2) (fC (.int 1))) ah)))) ah) ρ) gy) aN) (zi 3 (fB1 ei (aa (ac 3) ah))))) [some (.scr ns),some (.int z),some (.int m),none,none,none,none,none,none,none,none,none,none,none,none,none] []=some (.rt (ej js)):=by
  rw [sw (show fq 4 (fC (.int 0)) [some (.scr ns),some (.int z),some (.int m),none,none,none,none,none,none,none,none,none,none,none,none,none] []=some (.nx (jb ns z m 0) []) from rfl)]
  rw [sw hfor]
  exact hret
 unfold zk
 show (if ([]:List Dv).length≤100000 then _ else none)=_
 rw [if_pos (by simp)]
 exact (congrArg (fun o=>match o with | some (Fo.nx ρ' ds')=>some (Fl.nx (List.set ρ' 3 (some (Dv.lst ds')))) | some (Fo.rt d)=>some (Fl.rt d) | none=>none) hbody).trans rfl
theorem CK (n:aB):pp [enc n]=some (.ok (ek n)):=by simp [pp,bg,vq,aE,sq,bP,aI,cC,bn,cB,bnd,bOr,qh,di,fB,toB,ai,aZ,aa,ah,ac,fC,f1,f2,ixD,atD,vOr,gw,oO,fIf,cD,cM,fB1,fM,cG,isN,dW,bM,dq,eA,eG,enc,ek]
theorem lz:∀ js:List aB,keysOf (js.map ek)=some (js.map key)
 | []=>rfl
 | n :: js=>by
  show (match cV [.str n.nm,.str n.house,.str n.path],keysOf (js.map ek) with | some k,some ks=>some (k :: ks) | _,_=>none)=_
  rw [lz js]
  rfl
theorem vw {js:List aB} (J:Jar js):aT [ej js]=bo true:=by
 have e1:aG 1 [] (bZ (ac 0)) (gN 0) none (ai pp 1 (aa (ac 0) ah)) [some (ej js),none]=some (.ok (.lst (js.map ek))) :=
  lm enc ek (gh rfl) (by have:=J.l; omega) fun n hn=>lN pp rfl (CK n)
 have e2:g7 [.lst (js.map ek)]=some (.ok (.int js.length)):=by
  show (match keysOf (js.map ek) with | some ks=>if ks.Nodup∧ks.length≤18 then (some (.ok (.int ks.length)):Option (Rs Dv)) else none | none=>none)=_
  rw [lz]
  dsimp only
  rw [if_pos ⟨J.k,by simpa using J.l⟩]
  simp
 simp only [aT,bg,bd]
 simp [aE,sq,bn,cB,bnd,e1]
 simp [aI,f2,fB1,aa,ah,ac,bnd,cB,e2,dj,eqX,eqS]
theorem all_map {α:Type} (p:α→Bool) (l:List α):lM [.lst (l.map fun a=>Dv.bl (p a))]=bo (l.all p):=by
 unfold lM
 dsimp only
 rw [ln p l]
 dsimp only
 rw [ON]
 rfl
theorem om {α:Type} (l:List α):lM [.lst (l.map fun _=>Dv.bl true)]=bo true:=by
 rw [all_map (fun _=>true) l]
 simp
theorem yR {js:List aB} {i:Nat} (h:i < js.length):ixD (ej js) (.int i)=some (.ok (enc js[i])):=by
 show (match atD (js.map enc) (i:Int) with | some d=>_ | none=>_)=_
 unfold atD
 rw [if_pos (by omega)]
 simp [h]
theorem CL (n:aB):ixD (enc n) (.int 8)=some (.ok (.int n.md)):=rfl
theorem CM (js:List aB) (hl:js.length≤18):(fun ρ=>bnd ((aa (fC (.int 1)) (aa (fB1 dj (aa (ac 0) ah)) ah)) ρ) tE) [some (ej js)]=some (.ok ((h_ (js.length - 1)).map fun i:Nat=>Dv.int (1 + (i:Int)))):=by
 have h:(aa (fC (.int 1)) (aa (fB1 dj (aa (ac 0) ah)) ah)) [some (ej js)]=some (.ok [.int 1,.int js.length]):=by
  simp [bnd,aa,ah,fB1,fC,ac,ej,dj]
 refine (lx (k:=tE) h).trans ?_
 rw [Cp (by omega),jT,show ((js.length:Int) - 1).toNat=js.length - 1 by omega]
def Go:FnE:=(f2 leX (f2 ixD (f2 ixD (ac 1) (f2 ue (ac 0) (fC (.int 1)))) (fC (.int 8))) (f2 ixD (f2 ixD (ac 1) (ac 0)) (fC (.int 8))))
theorem yS {js:List aB} (J:Jar js) {i:Nat} (hi':i + 1 < js.length):Go [some (.int (1 + (i:Int))),some (ej js)]=some (.ok (.bl true)):=by
 have hs:=J.s i hi'
 have h1:f2 ixD (ac 1) (f2 ue (ac 0) (fC (.int 1))) [some (.int (1 + (i:Int))),some (ej js)]=some (.ok (enc js[i])):=by
  have q:=yR (js:=js) (i:=i) (by omega)
  rw [show (i:Int)=1 + (i:Int) - 1 by omega] at q
  exact q
 have h2:f2 ixD (ac 1) (ac 0) [some (.int (1 + (i:Int))),some (ej js)]=some (.ok (enc js[i + 1])):=by
  have q:=yR (js:=js) (i:=i + 1) hi'
  rw [show ((i + 1:Nat):Int)=1 + (i:Int) by omega] at q
  exact q
 have h3:leX (.int js[i].md) (.int js[i + 1].md)=some (.ok (.bl true)):=by simp [leX,hs]
 exact (aY ((aY h1 rfl).trans (CL _)) ((aY h2 rfl).trans (CL _))).trans h3
theorem Fw {js:List aB} (J:Jar js):bh [("notes",0)] (fun ρ=>bnd ((aa (fC (.int 1)) (aa (fB1 dj (aa (ac 0) ah)) ah)) ρ) tE) none Go [some (ej js)]=some (.ok (.lst ((h_ (js.length - 1)).map fun _=>Dv.bl true))) :=
 ce (fun i:Nat=>Dv.int (1 + (i:Int))) (fun _=>Dv.bl true) (CM js J.l) (by have:=J.l; rw [KC]; omega) fun i hi=>yS J (by have:=IF.mp hi; omega)
theorem yT {js:List aB} (J:Jar js):cL [ej js]=bo true :=
 dA (d:=.bl true) (c9 ((cF (ae (Fw J) ar)).trans (om _)))
theorem t_a {js:List aB} (J:Jar js):bh [] (bZ (ac 0)) none (ai cz 1 (aa (ac 0) ah)) [some (ej js)]=some (.ok (.lst (js.map fun _=>Dv.bl true))) :=
 ce enc (fun _=>Dv.bl true) (gh rfl) (by have:=J.l; omega) fun n hn=>lN cz rfl (CB (J.g n hn))
theorem t_b {js:List aB} (J:Jar js):(bOr (di (fB (f1 (dW dq) (ac 0)))) (fB (f2 gtD (fB1 dj (aa (ac 0) ah)) (fC (.int 20))))) [some (ej js)]=some (.ok false):=by
 have e3:¬ (20 < (js.length:Int)):=by have:=J.l; omega
 simp [aE,sq,bOr,di,fB,f1,f2,dW,dq,ac,bnd,toB,fB1,aa,ah,fC,ej,dj,Ej,e3]
theorem t_c {js:List aB} (J:Jar js):fB1 lM (aa (bh [] (bZ (ac 0)) none (ai cz 1 (aa (ac 0) ah))) ah) [some (ej js)]=bo true:=(cF (ae (t_a J) ar)).trans (om js)
theorem t_d {js:List aB} (J:Jar js):dQ [some (ej js)]=some (.rt (.bl true)):=by
 unfold dQ
 rw [av (b5 (t_b J))]
 rw [av (b5 (xx (k:=true) (dt (t_c J))))]
 refine c9 ?_
 rw [AS (lN cL rfl (yT J))]
 exact lN aT rfl (vw J)
theorem yU {js:List aB} (J:Jar js):dg [ej js]=bo true:=dA (d:=.bl true) (t_d J)
def rules:List Dv:=[.str "!w.ck",.str "*.ck",.str "*.uk",.str "a.b",.str "b",.str "c.uk",.str "q",.str "uk"]
def eW:List Dv→List (List Dv)
 | []=>[[]]
 | x :: r=>(eW r).map (x :: ·) ++ eW r
def yV:FnB:=fB (f2 eqX (ai ag 3 (aa (ac 2) (aa (f2 ef (ac 3) (ac 0)) (aa (fC (.int 2)) ah)))) (fC (.int 0)))
theorem wg (ns:List Int) (hl:ns.length≤63) (z:Int):∀ (l:List Dv) (k:Nat),∃ t∈eW l,fL (gP 0 1) (some yV) (ac 1) [none,none,some (.scr ns),some (.int z)] (c8 k l)=some t
 | [],k=>⟨[],by simp [eW],rfl⟩
 | x :: r,k=>by
  obtain ⟨t,ht,e⟩:=wg ns hl z r (k + 1)
  obtain ⟨d,h0,h1,hd⟩:=aU ns hl (z + k) 2 (by omega)
  have ht':yV [some (.int k),some x,some (.scr ns),some (.int z)]=bnd (bnd (okO (ag [.scr ns,.int (z + k),.int 2])) fun x=>eqX x (.int 0)) toB:=by kernel_rfl
  have hu:fL (gP 0 1) (some yV) (ac 1) [none,none,some (.scr ns),some (.int z)] (c8 k (x :: r))=(match yV [some (.int k),some x,some (.scr ns),some (.int z)] with
   | some (.ok true)=>(match fL (gP 0 1) (some yV) (ac 1) [none,none,some (.scr ns),some (.int z)] (c8 (k + 1) r) with | some ys=>some (x :: ys) | none=>none)
   | some (.ok false)=>fL (gP 0 1) (some yV) (ac 1) [none,none,some (.scr ns),some (.int z)] (c8 (k + 1) r)
   | _=>none):=by kernel_rfl
  rw [hu,ht',hd,e]
  have hc:d=0∨d=1:=by omega
  rcases hc with rfl | rfl
  · exact ⟨x :: t,by simp [eW,ht],by kernel_rfl⟩
  · exact ⟨t,by simp [eW,ht],by kernel_rfl⟩
theorem jU:∀ {l t:List Dv},t∈eW l→t.length≤l.length
 | [],t,h=>by simp [eW] at h; simp [h]
 | x :: r,t,h=>by
  simp only [eW,HC,Iv] at h
  rcases h with ⟨u,hu,rfl⟩ | h
  · have:=jU hu; simp; omega
  · have:=jU h; simp; omega
theorem vx (ns:List Int) (hl:ns.length≤63):∃ t∈eW rules,bU [.scr ns,.int 0]=some (.ok (.tup t)):=by
 obtain ⟨t,ht,e⟩:=wg ns hl 0 rules 0
 refine ⟨t,ht,?_⟩
 have hle:t.length≤100000:=by have:=jU ht; have:rules.length=8:=rfl; omega
 have hu:bU [.scr ns,.int 0]=(match cB (bnd (bnd (match fL (gP 0 1) (some yV) (ac 1) [none,none,some (.scr ns),some (.int 0)] (c8 0 rules) with
  | some ys=>if ys.length≤100000∧(c8 0 rules).length≤100000 then (some (.ok (.lst ys)):Option (Rs Dv)) else none
  | none=>none) fun x=>bnd (some (.ok [])) fun ys=>some (.ok (x :: ys))) ei) fun d=>some (.rt d) with
  | some (.nx _)=>some (.ok .non)
  | some (.rt d)=>some (.ok d)
  | _=>none):=by kernel_rfl
 rw [hu,e]
 dsimp only
 rw [if_pos ⟨hle,by decide⟩]
 rfl
end G
namespace RM
open PySem PySem.Spec FD
structure Tot {α:Type} (lt:α→α→Bool):Prop where
 ir:∀ a,lt a a=false
 tr:∀ a b c,lt a b=true→lt b c=true→lt a c=true
section
variable {α:Type} {lt:α→α→Bool}
def above (lt:α→α→Bool) (L:List α) (n:α):Nat:=L.countP (fun m=>lt n m)
def keep (lt:α→α→Bool) (L:List α) (r:Nat):List α:=L.filter fun n=>decide (above lt L n < r)
theorem jd {L M:List α} (h:L.Perm M) (n:α):above lt L n=above lt M n:=h.countP_eq _
theorem jf (T:Tot lt):∀ {S:List α},S.Pairwise (fun a b=>lt b a=true)→S.map (above lt S)=h_ S.length
 | [],_=>rfl
 | x :: S,h=>by
  rw [G_] at h
  have ih:=jf T h.2
  have e0:above lt (x :: S) x=0:=by
   unfold above
   rw [List.countP_eq_zero]
   intro m hm
   rcases on.mp hm with rfl | hm
   · simp [T.ir]
   · intro z
     have:=T.tr _ _ _ z (h.1 m hm)
     rw [T.ir] at this
     cases this
  have e1:∀ y∈S,above lt (x :: S) y=above lt S y + 1:=fun y hy=>by
   unfold above
   rw [Kh,h.1 y hy]
   simp
  rw [y_,e0,Il,Kp,← ih,IC]
  congr 1
  exact KZ fun y hy=>by simp [e1 y hy]
theorem sD (T:Tot lt) {L S:List α} (hp:S.Perm L) (hs:S.Pairwise (fun a b=>lt a b=true)) (r:Nat) (n:α):n∈S.take (L.length - r)↔n∈L∧¬ (above lt L n < r):=by
 have hr:S.reverse.Pairwise (fun a b=>lt b a=true):=List.pairwise_reverse.mpr hs
 have hpr:S.reverse.Perm L:=(List.reverse_perm S).trans hp
 have key:=jf T hr
 have hlen:S.length=L.length:=hp.length_eq
 have at':∀ (i:Nat) (hi:i < S.length),above lt L S[i]=S.length - 1 - i:=fun i hi=>by
  have hk:S.length - 1 - i < S.reverse.length:=by simp; omega
  have e:=congrArg (fun l=>l[S.length - 1 - i]?) key
  simp only [Hz] at e
  rw [u_ hk,K0 (by simpa using hk),JE,List.getElem_reverse] at e
  have e':=HN e
  rw [jd hpr] at e'
  rw [← e']
  congr 2
  omega
 constructor
 · intro h
   obtain ⟨i,hi,e⟩:=KR.mp h
   have hi2:i < L.length - r∧i < S.length:=by simp at hi; omega
   rw [OL] at e
   refine ⟨hp.mem_iff.mp (e ▸ Ju hi2.2),?_⟩
   rw [← e,at' i hi2.2]
   omega
 · rintro ⟨hm,hn⟩
   obtain ⟨i,hi,e⟩:=KR.mp (hp.mem_iff.mpr hm)
   rw [← e,at' i hi] at hn
   rw [KR]
   exact ⟨i,by simp; omega,by rw [OL]; exact e⟩
end
end RM
namespace RM
section
variable {α γ:Type} [DecidableEq γ] {lt:α→α→Bool} (gr:α→γ)
def mem (l:List α) (g:γ):List α:=l.filter fun i=>decide (gr i=g)
def gq (lt:α→α→Bool) (l:List α) (e:Nat):List α:=l.filter fun i=>decide (above lt (mem gr l (gr i)) i < e)
def j5 (lt:α→α→Bool) (l:List α) (e m:Nat):List α:=keep lt (gq gr lt l e) m
variable {gr}
theorem fit_sub {l:List α} {e m:Nat}:(j5 gr lt l e m).Sublist l:=K1.trans K1
theorem inner_sub {l:List α} {e:Nat}:(gq gr lt l e).Sublist l:=K1
theorem jV (T:Tot lt) {l:List α} {i:α} (h:i∈l):above lt l i < l.length:=by
 unfold above
 refine Nat.lt_of_le_of_ne (List.countP_le_length) fun z=>?_
 have:=Ny.mp z i h
 rw [T.ir] at this
 cases this
theorem vy (T:Tot lt) {l:List α} {m:Nat} (h:l.length≤m):keep lt l m=l:=by
 unfold keep
 rw [Mc]
 intro i hi
 have:=jV T hi
 simp
 omega
theorem sH (T:Tot lt) {l:List α} {e:Nat} (h:l.length≤e):gq gr lt l e=l:=by
 unfold gq
 rw [Mc]
 intro i hi
 have h1:=jV T (l:=mem gr l (gr i)) (i:=i) (by unfold mem; rw [HU]; exact ⟨hi,by simp⟩)
 have h2:(mem gr l (gr i)).length≤l.length:=Ip _ _
 simp
 omega
theorem oo (T:Tot lt) {l:List α} {e b:Nat} (hb:l.length≤b):j5 gr lt l e b=gq gr lt l e:=vy T (Hm inner_sub.length_le hb)
theorem yW (T:Tot lt) {l:List α} {b c:Nat} (hb:l.length≤b) (hc:l.length≤c):j5 gr lt l b c=l:=by
 rw [oo T hc,sH T hb]
end
end RM
namespace G
open PySem PySem.Spec PyProof.Rows L2 FD TS
def pB (n:aB):List Dv:=[.bl n.S,.int n.us]
def ltN (a b:aB):Bool:=ltL (pB a) (pB b)
def tH (xs:List aB):List aB:=isortB (fun a b=>!ltN b a) xs
theorem yX (n:aB):fH [enc n]=some (.ok (.tup (pB n))):=by simp [fH,bg,nY,aI,cB,bnd,aa,ah,ac,fC,f2,ixD,atD,cD,enc,pB]
theorem sI:∀ xs:List aB,eH fH (xs.map enc)=some (xs.map pB)
 | []=>rfl
 | n :: xs=>by
  show (match fH [enc n],eH fH (xs.map enc) with | some (.ok (.tup es)),some rs=>some (es :: rs) | _,_=>none)=_
  rw [yX,sI xs]
  rfl
theorem sJ {xs:List aB} (h:xs.length < 64):fD (xs.map pB)=true:=by
 unfold fD
 rw [j_,decide_eq_true_eq,HV]
 refine ⟨by simpa using h,fun r hr=>?_⟩
 obtain ⟨n,hn,rfl⟩:=Iv.mp hr
 cases xs with
 | nil=>simp at hn
 | cons x xs=>rfl
theorem yY (n:aB):imm (enc n)=true:=by
 unfold enc
 cases h:n.ends <;> simp [imm,imms,eO]
theorem oq:∀ xs:List aB,imms (xs.map enc)=true
 | []=>by simp [imms]
 | n :: xs=>by simp [imms,yY n,oq xs]
theorem ot:∀ xs:List aB,imms ((xs.map pB).map Dv.tup)=true
 | []=>by simp [imms]
 | n :: xs=>by
  have:=ot xs
  simp only [y_,imms,j_]
  exact ⟨by simp [imm,imms,pB],this⟩
theorem pC (xs:List aB):h8 (xs.map pB) (xs.map enc)=(tH xs).map enc:=by
 unfold h8 tH
 have e:(xs.map pB).zip (xs.map enc)=xs.map fun n=>(pB n,enc n):=by
  rw [List.zip_map']
 rw [e,← TS.sort_map (le:=fun a b=>!ltN b a) (fun n=>(pB n,enc n)) xs fun _ _ _ _=>rfl,IC]
 rfl
theorem ou {xs:List aB} (h:xs.length < 64):iZ fH (xs.map enc)=some (.ok (.lst ((tH xs).map enc))):=by
 unfold iZ
 rw [sI]
 dsimp only
 rw [if_pos ⟨sJ h,oq xs,ot xs⟩,pC]
theorem vz (xs:List aB):(tH xs).length=xs.length:=(isortB_perm _ xs).length_eq
theorem CN (l:List Dv) (n:Nat) (h:n≤l.length):tG l none (some (n:Int))=l.take n:=by
 unfold tG HT.sIx
 simp only [List.drop_zero]
 rw [if_neg (by omega)]
 congr 1
 omega
theorem yZ {fa:FnE} {fl fh:FnO} {ρ:Ev} {x:Dv} {lo hi:Option Int} (h1:fa ρ=some (.ok x)) (h2:fl ρ=some (.ok lo)) (h3:fh ρ=some (.ok hi)):uI fa fl fh ρ=EE x lo hi:=by unfold uI; rw [h1,h2,h3]; rfl
theorem vA {f:FnE} {ρ:Ev} {i:Int} (h:f ρ=some (.ok (.int i))):gm f ρ=some (.ok (some i)):=by unfold gm; rw [h]; rfl
theorem sK {xs:List aB} {d:Dv} (hd:d=.lst (xs.map enc)∨d=ej xs) (h:xs.length < 64) (r:Nat):cf [d,.int r]=some (.ok (.lst (((tH xs).take (xs.length - r)).map enc))):=by
 refine dA ?_
 show c0 [some d,some (.int r),none]=_
 unfold c0
 have e1:(fB1 (ph fH) (aa (ac 0) ah)) [some d,some (.int r),none]=some (.ok (.lst ((tH xs).map enc))):=by
  refine (cF (ae (x:=d) rfl ar)).trans ?_
  rcases hd with rfl | rfl
  · exact ou h
  · exact ou h
 rw [av (aX e1 rfl)]
 simp only [Iz,Iy]
 refine c9 ?_
 have e2:dj [d]=some (.ok (.int xs.length)):=by
  rcases hd with rfl | rfl
  · show some (Rs.ok (Dv.int ((xs.map enc).length:Int)))=_
    rw [HF]
  · show some (Rs.ok (Dv.int ((xs.map enc).length:Int)))=_
    rw [HF]
 have e3:(fB1 Dw (aa (f2 ue (fB1 dj (aa (ac 0) ah)) (ac 1)) (aa (fC (.int 0)) ah))) [some d,some (.int r),some (.lst ((tH xs).map enc))]=some (.ok (.int ((xs.length - r:Nat):Int))):=by
  refine (cF (ae (x:=.int ((xs.length:Int) - r)) ((aY ((cF (ae (x:=d) rfl ar)).trans e2) (y:=.int r) rfl).trans rfl) (ae (x:=.int 0) rfl ar))).trans ?_
  show some (Rs.ok (Dv.int (if (0:Int) > (xs.length:Int) - r then 0 else (xs.length:Int) - r)))=_
  congr 3
  split <;> omega
 refine (yZ rfl rfl (vA e3)).trans ?_
 show some (Rs.ok (Dv.lst (tG ((tH xs).map enc) none (some ((xs.length - r:Nat):Int)))))=_
 rw [CN _ _ (by rw [HF,vz]; omega),List.map_take]
def out (xs ys:List aB):List aB:=xs.filter fun n=>!ys.any fun m=>decide (m=n)
theorem jg {xs ys:List aB} (hx:∀ n∈xs,Good n) (hy:∀ n∈ys,Good n) (hl:xs.length≤1000):c4 [ej xs,.lst (ys.map enc)]=some (.ok (ej (out xs ys))):=by
 refine dA ?_
 show dG [some (ej xs),some (.lst (ys.map enc))]=_
 unfold dG
 refine c9 ?_
 have e:(bh [("dropped",1)] (bZ (ac 0)) (some (fB (f2 cH (ac 0) (ac 1)))) (ac 0)) [some (ej xs),some (.lst (ys.map enc))]=some (.ok (.lst ((out xs ys).map enc))) :=
  ll (l:=xs) enc (fun n=>!ys.any fun m=>decide (m=n)) enc (gh rfl) (by omega) fun n hn =>
   ⟨dt ((aY (x:=enc n) (y:=.lst (ys.map enc)) rfl rfl).trans (Fm ((oi (hx n hn)).le (by omega)) rfl (fun a ha=>(oi (hy a ha)).le (by omega)) fun a _=>yN a n).2.1),rfl⟩
 exact (cF (ae e ar)).trans rfl
end G
namespace G
open PySem PySem.Spec PyProof.Rows L2 FD TS RM
theorem CO (a:aB):ltN a a=false:=nP _
theorem CP {a b c:aB} (h:ltN a b=true) (h':ltN b c=true):ltN a c=true:=nQ h h'
theorem sL {a b c:aB} (h:ltN a c=true):ltN a b=true∨ltN b c=true:=rL rfl rfl rfl h
def lxN (js:List aB) (a b:aB):Bool:=ltN a b || (!ltN b a && decide (js.idxOf a < js.idxOf b))
theorem lxN_iff {js:List aB} {a b:aB}:lxN js a b=true↔ltN a b=true∨(ltN b a=false∧js.idxOf a < js.idxOf b):=by
 unfold lxN
 simp
theorem mF (js:List aB):Tot (lxN js) where
 ir:=fun a=>by
  cases h:lxN js a a with
  | false=>rfl
  | true =>
   rcases lxN_iff.mp h with q | q
   · rw [CO] at q; cases q
   · omega
 tr:=fun a b c h1 h2=>by
  rw [lxN_iff] at *
  rcases h1 with h1 | ⟨h1,i1⟩
  · rcases h2 with h2 | ⟨h2,i2⟩
    · exact .inl (CP h1 h2)
    · rcases sL (b:=c) h1 with q | q
      · exact .inl q
      · rw [q] at h2; cases h2
  · rcases h2 with h2 | ⟨h2,i2⟩
    · rcases sL (b:=a) h2 with q | q
      · rw [q] at h1; cases h1
      · exact .inl q
    · refine .inr ⟨?_,by omega⟩
      cases q:ltN c a with
      | false=>rfl
      | true =>
       rcases sL (b:=b) q with z | z
       · rw [z] at h2; cases h2
       · rw [z] at h1; cases h1
def Inc (js xs:List aB):Prop:=xs.Pairwise (fun a b=>js.idxOf a < js.idxOf b)
theorem ov {js:List aB} (nd:js.Nodup) {i:Nat} (h:i < js.length):js.idxOf js[i]=i:=nd.idxOf_getElem i h
theorem vB {js:List aB} (nd:js.Nodup):Inc js js:=by
 unfold Inc
 rw [KW]
 intro i j hi hj hij
 rw [ov nd hi,ov nd hj]
 exact hij
theorem wj {js:List aB} (x:aB):∀ l:List aB,(∀ y∈l,js.idxOf x < js.idxOf y)→l.Pairwise (fun a b=>lxN js a b=true)→(lB (fun a b=>!ltN b a) x l).Pairwise (fun a b=>lxN js a b=true)
 | [],_,_=>by simp [lB]
 | y :: l,hx,h=>by
  unfold lB
  rw [G_] at h
  split
  · rename_i hc
    have hxy:lxN js x y=true:=lxN_iff.mpr (.inr ⟨by simpa using hc,hx y g_⟩)
    rw [G_,G_]
    refine ⟨fun z hz=>?_,h⟩
    rcases on.mp hz with rfl | hz
    · exact hxy
    · exact (mF js).tr _ _ _ hxy (h.1 z hz)
  · rename_i hc
    rw [G_]
    refine ⟨fun z hz=>?_,wj x l (fun z hz=>hx z (l_ _ hz)) h.2⟩
    rcases on.mp ((dC _ x l).mem_iff.mp hz) with rfl | hz
    · exact lxN_iff.mpr (.inl (by simpa using hc))
    · exact h.1 z hz
theorem wl {js:List aB}:∀ {xs:List aB},Inc js xs→(tH xs).Pairwise (fun a b=>lxN js a b=true)
 | [],_=>.nil
 | x :: xs,h=>by
  unfold Inc at h
  rw [G_] at h
  exact wj x _ (fun y hy=>h.1 y ((isortB_perm _ xs).mem_iff.mp hy)) (wl h.2)
def tmN (xs:List aB) (r:Nat):List aB:=(tH xs).take (xs.length - r)
theorem jW {js xs:List aB} (h:Inc js xs) (r:Nat) (n:aB):n∈tmN xs r↔n∈xs∧¬ (above (lxN js) xs n < r) :=
 sD (mF js) (isortB_perm _ xs) (wl h) r n
theorem vC {js xs:List aB} (h:Inc js xs) (r:Nat):out xs (tmN xs r)=keep (lxN js) xs r:=by
 unfold out keep
 apply KD
 intro n hn
 rw [HG]
 simp only [Iw,MI,decide_eq_true_eq]
 constructor
 · intro z
   cases hc:decide (above (lxN js) xs n < r) with
   | true=>simpa using hc
   | false=>exact absurd rfl (z n ((jW h r n).mpr ⟨hn,by simpa using hc⟩))
 · intro z m hm e
   subst e
   exact ((jW h r m).mp hm).2 z
def mG (t:List Dv) (h:Str):Bool:=match a5 [.tup t,.str h] with
 | some (.ok .non)=>true
 | some (.ok (.str z))=>HQ (.str z)
 | _=>false
def bz:Nat→List (List Dv)
 | 0=>eW rules
 | k + 1=>(bz k).drop 32
theorem ow {α:Type} {l:List α} {p:α→Bool} (n:Nat) (h1:(l.take n).all p=true) (h2:(l.drop n).all p=true):l.all p=true:=by
 rw [← List.take_append_drop n l,List.all_append,h1,h2]; rfl
theorem GV:((bz 0).take 32).all (fun t=>En.all (mG t))=true:=by kernel_rfl
theorem GW:((bz 1).take 32).all (fun t=>En.all (mG t))=true:=by kernel_rfl
theorem GX:((bz 2).take 32).all (fun t=>En.all (mG t))=true:=by kernel_rfl
theorem GY:((bz 3).take 32).all (fun t=>En.all (mG t))=true:=by kernel_rfl
theorem GZ:((bz 4).take 32).all (fun t=>En.all (mG t))=true:=by kernel_rfl
theorem G0:((bz 5).take 32).all (fun t=>En.all (mG t))=true:=by kernel_rfl
theorem G1:((bz 6).take 32).all (fun t=>En.all (mG t))=true:=by kernel_rfl
theorem G2:((bz 7).take 32).all (fun t=>En.all (mG t))=true:=by kernel_rfl
theorem wm:(eW rules).all (fun t=>En.all (mG t))=true:=ow (l:=bz 0) 32 GV (ow (l:=bz 1) 32 GW (ow (l:=bz 2) 32 GX (ow (l:=bz 3) 32 GY (ow (l:=bz 4) 32 GZ (ow (l:=bz 5) 32 G0 (ow (l:=bz 6) 32 G1 G2))))))
def gK (t:List Dv) (h:Str):Str:=match a5 [.tup t,.str h] with
 | some (.ok (.str z))=>z
 | _=>h
theorem vD {t:List Dv} (ht:t∈eW rules) {n:aB} (g:Good n):aJ [.tup t,enc n]=some (.ok (.str (gK t n.house)))∧HQ (.str (gK t n.house))=true:=by
 have hh:=g.house
 have q:=bY (p:=mG t) (bY (p:=fun t=>En.all (mG t)) wm ht) hh
 unfold mG at q
 unfold gK
 split at q
 · rename_i e
   rw [e]
   refine ⟨by simp [aJ,bg,cZ,aE,sq,bP,aI,cC,bn,cB,bnd,bOr,qh,di,fB,toB,ai,aZ,aa,ah,ac,fC,f1,f2,ixD,atD,vOr,gw,oO,fIf,cD,cM,fB1,fM,cG,isN,dW,bM,dq,eA,eG,enc,e],?_⟩
   exact jS (by unfold signs0; simp [hh])
 · rename_i z e
   rw [e]
   exact ⟨by simp [aJ,bg,cZ,aE,sq,bP,aI,cC,bn,cB,bnd,bOr,qh,di,fB,toB,ai,aZ,aa,ah,ac,fC,f1,f2,ixD,atD,vOr,gw,oO,fIf,cD,cM,fB1,fM,cG,isN,dW,bM,dq,eA,eG,enc,e],q⟩
 · cases q
section
variable {t:List Dv} {js:List aB}
def gnm (t:List Dv) (n:aB):Str:=gK t n.house
end
theorem oy {f:FnE} {ρ:Ev} {ds:List Dv} (h:f ρ=some (.ok (.lst ds))):bZ f ρ=some (.ok ds):=by unfold bZ; rw [h]; rfl
theorem sM (a b:Str):eqX (.str a) (.str b)=some (.ok (.bl (decide (a=b)))):=by
 show some (Rs.ok (Dv.bl (seq a b)))=_
 congr 3
 rw [← mY]
 rw [HG]
 simp
theorem jh:∀ ks:List Str,cV (ks.map Dv.str)=some ks
 | []=>rfl
 | x :: ks=>by
  show (cV (ks.map Dv.str)).map (x :: ·)=_
  rw [jh ks]
  rfl
theorem dS {ks:List Str} (h:ks.length≤59):cO [.lst (ks.map Dv.str)]=some (.ok (.lst ((isortB leS (ST.ddk ks)).map Dv.str))):=by
 show (match cV (ks.map Dv.str) with | some ks=>if ks.length≤59 then (some (.ok (.lst ((isortB leS (ST.ddk ks)).map Dv.str))):Option (Rs Dv)) else none | none=>none)=_
 rw [jh]
 dsimp only
 rw [if_pos h]
section
variable {t:List Dv} {xs:List aB} {e m:Nat}
def gls (t:List Dv) (xs:List aB):List Str:=isortB leS (ST.ddk (xs.map (gnm t)))
def lft (t:List Dv) (xs:List aB) (e:Nat) (gl:List Str) (acc:List aB):List aB:=gl.foldl (fun acc g=>out acc (tmN (mem (gnm t) xs g) e)) acc
theorem jX {ys zs:List aB} (h:∀ n∈ys,Good n):∀ n∈out ys zs,Good n:=fun n hn=>h n (HU.mp hn).1
theorem sN {ys:List aB} {r:Nat} (h:∀ n∈ys,Good n):∀ n∈tmN ys r,Good n:=fun n hn=>h n ((isortB_perm _ ys).mem_iff.mp (List.mem_of_mem_take hn))
theorem vE {ys:List aB} {g:Str} (h:∀ n∈ys,Good n):∀ n∈mem (gnm t) ys g,Good n:=fun n hn=>h n (HU.mp hn).1
theorem sO {ys zs:List aB}:(out ys zs).length≤ys.length:=Ip _ _
theorem y0 (ht:t∈eW rules) (hg:∀ n∈xs,Good n) (hl:xs.length≤18) {acc:List aB} (ha:∀ n∈acc,Good n) (hal:acc.length≤18) (g:Str) :
 eS [some (.tup t),some (ej xs),some (.int e),some (.int m),some (ej acc),some (.str g),none]=some (.nx [some (.tup t),some (ej xs),some (.int e),some (.int m),some (ej (out acc (tmN (mem (gnm t) xs g) e))),some (.str g),some (.lst ((mem (gnm t) xs g).map enc))]):=by
 unfold eS
 have e1:(aG 1 [("table",0),("group",5)] (bZ (ac 1)) (gN 0) (some (fB (f2 eqX (ai aJ 2 (aa (ac 1) (aa (ac 0) ah))) (ac 2)))) (ac 0)) [some (.tup t),some (ej xs),some (.int e),some (.int m),some (ej acc),some (.str g),none]=some (.ok (.lst ((mem (gnm t) xs g).map enc))) :=
  i8 enc (fun n=>decide (gnm t n=g)) enc (gh rfl) (by omega) fun n hn=>⟨dt ((aY (x:=.str (gnm t n)) (y:=.str g) (gX aJ rfl rfl (vD ht (hg n hn)).1) rfl).trans (sM _ _)),rfl⟩
 rw [av (aX e1 rfl)]
 simp only [Iz,Iy]
 have hml:(mem (gnm t) xs g).length≤18:=Hm (Ip _ _) hl
 refine aX (d:=ej (out acc (tmN (mem (gnm t) xs g) e))) ?_ rfl
 exact gX c4 rfl (gX cf rfl rfl (sK (xs:=mem (gnm t) xs g) (.inl rfl) (by omega) e)) (jg ha (sN (vE hg)) (by omega))
theorem sP (ht:t∈eW rules) (hg:∀ n∈xs,Good n) (hl:xs.length≤18):∀ (gl:List Str) (acc:List aB) (a b:Option Dv),(∀ n∈acc,Good n)→acc.length≤18 →
 dU 5 [5,6] eS (gl.map Dv.str) [some (.tup t),some (ej xs),some (.int e),some (.int m),some (ej acc),a,b]=some (.nx [some (.tup t),some (ej xs),some (.int e),some (.int m),some (ej (lft t xs e gl acc)),none,none])
 | [],acc,a,b,_,_=>rfl
 | g :: gl,acc,a,b,ha,hal=>by
  unfold dU
  have e1:(fgt [5,6] [some (.tup t),some (ej xs),some (.int e),some (.int m),some (ej acc),a,b]).set 5 (some (.str g))=[some (.tup t),some (ej xs),some (.int e),some (.int m),some (ej acc),some (.str g),none]:=rfl
  show (match eS ((fgt [5,6] [some (.tup t),some (ej xs),some (.int e),some (.int m),some (ej acc),a,b]).set 5 (some (.str g))) with | some (.nx ρ')=>dU 5 [5,6] eS (gl.map Dv.str) ρ' | o=>o)=_
  rw [e1,y0 ht hg hl ha hal g]
  exact sP ht hg hl gl _ _ _ (jX ha) (Hm sO hal)
theorem vF {gl:List Str}:∀ {acc:List aB},(∀ n∈acc,Good n)→(∀ n∈lft t xs e gl acc,Good n)∧(lft t xs e gl acc).length≤acc.length:=by
 induction gl with
 | nil=>exact fun h=>⟨h,n_ _⟩
 | cons g gl ih=>exact fun {acc} h=>⟨(ih (jX h)).1,Hm (ih (jX h)).2 sO⟩
theorem CQ (ht:t∈eW rules) (hg:∀ n∈xs,Good n) (hl:xs.length≤18):vp [.tup t,ej xs,.int e,.int m]=some (.ok (ej (out (lft t xs e (gls t xs) xs) (tmN (lft t xs e (gls t xs) xs) m)))):=by
 refine dA ?_
 show sd [some (.tup t),some (ej xs),some (.int e),some (.int m),none,none,none]=_
 unfold sd
 rw [av (aX (d:=ej xs) rfl rfl)]
 simp only [Iz,Iy]
 have e1:(bh [("table",0)] (bZ (ac 1)) none (ai aJ 2 (aa (ac 1) (aa (ac 0) ah)))) [some (.tup t),some (ej xs),some (.int e),some (.int m),some (ej xs),none,none]=some (.ok (.lst ((xs.map (gnm t)).map Dv.str))):=by
  rw [IC]
  exact ce enc (fun n=>.str (gnm t n)) (gh rfl) (by omega) fun n hn=>gX aJ rfl rfl (vD ht (hg n hn)).1
 have e2:(bZ (fB1 cO (aa (bh [("table",0)] (bZ (ac 1)) none (ai aJ 2 (aa (ac 1) (aa (ac 0) ah)))) ah))) [some (.tup t),some (ej xs),some (.int e),some (.int m),some (ej xs),none,none]=some (.ok ((gls t xs).map Dv.str)):=by
  exact oy ((cF (ae e1 ar)).trans (dS (by simp; omega)))
 rw [av ((jx e2).trans (sP ht hg hl (gls t xs) xs none none hg hl))]
 obtain ⟨g1,g2⟩:=vF (t:=t) (xs:=xs) (e:=e) (gl:=gls t xs) hg
 refine c9 ?_
 exact gX c4 rfl (gX cf rfl rfl (sK (xs:=lft t xs e (gls t xs) xs) (.inr rfl) (by omega) m)) (jg g1 (sN g1) (by omega))
end
theorem sQ {α:Type} [DecidableEq α] {acc:List α} {k x:α} (h:x∈acc∨x=k):x∈ST.addK acc k:=by
 unfold ST.addK
 split
 · rcases h with h | rfl
   · exact h
   · assumption
 · rcases h with h | rfl
   · exact l_ _ h
   · exact g_
theorem sS {α:Type} [DecidableEq α]:∀ (ks acc:List α) (x:α),x∈acc∨x∈ks→x∈ks.foldl ST.addK acc
 | [],acc,x,h=>by rcases h with h | h; exact h; simp at h
 | k :: ks,acc,x,h=>by
  refine sS ks _ x ?_
  rcases h with h | h
  · exact .inl (sQ (.inl h))
  · rcases on.mp h with rfl | h
    · exact .inl (sQ (.inr rfl))
    · exact .inr h
theorem sT {js xs ys:List aB} (h:Inc js xs) (s:ys.Sublist xs):Inc js ys:=List.Pairwise.sublist s h
section
variable {t:List Dv} {js xs:List aB} {e m:Nat}
theorem wn {n:aB} (h:n∈xs):gnm t n∈gls t xs:=by
 unfold gls
 rw [(isortB_perm leS _).mem_iff]
 exact sS _ _ _ (.inr (List.mem_map_of_mem h))
theorem wo:∀ (gl:List Str) (acc:List aB),lft t xs e gl acc=acc.filter fun n=>gl.all fun g=>!(tmN (mem (gnm t) xs g) e).any fun k=>decide (k=n)
 | [],acc=>by
  show acc=_
  rw [Mc.mpr (by simp)]
 | g :: gl,acc=>by
  show lft t xs e gl (out acc (tmN (mem (gnm t) xs g) e))=_
  rw [wo gl]
  unfold out
  rw [Oo]
  apply KD
  intro n _
  rw [Im,Bool.and_comm]
theorem sU (h:Inc js xs):lft t xs e (gls t xs) xs=gq (gnm t) (lxN js) xs e:=by
 rw [wo]
 unfold gq
 apply KD
 intro n hn
 have hm:n∈mem (gnm t) xs (gnm t n):=by unfold mem; rw [HU]; exact ⟨hn,by simp⟩
 have hI:∀ g,Inc js (mem (gnm t) xs g):=fun g=>sT h K1
 rw [HG]
 simp only [HV,Iw,MI,decide_eq_true_eq]
 constructor
 · intro z
   have z1:=z (gnm t n) (wn hn)
   cases hc:decide (above (lxN js) (mem (gnm t) xs (gnm t n)) n < e) with
   | true=>simpa using hc
   | false=>exact absurd rfl (z1 n ((jW (hI _) e n).mpr ⟨hm,by simpa using hc⟩))
 · intro z g hg k hk ek
   subst ek
   obtain ⟨k1,k2⟩:=(jW (hI g) e k).mp hk
   have:gnm t k=g:=by
    unfold mem at k1
    rw [HU] at k1
    simpa using k1.2
   subst this
   exact k2 z
theorem CS (ht:t∈eW rules) (hg:∀ n∈xs,Good n) (hl:xs.length≤18) (h:Inc js xs):vp [.tup t,ej xs,.int e,.int m]=some (.ok (ej (j5 (gnm t) (lxN js) xs e m))):=by
 rw [CQ ht hg hl,sU h,vC (sT h inner_sub)]
 rfl
theorem y1 {r:Nat} (h:r≤20):ax [.int r,.int 0,.int 20]=bo true:=by
 have h0:(0:Int)≤(r:Int):=by omega
 have h1:(r:Int)≤20:=by omega
 simp [ax,bg,aO,aE,sq,bP,aI,cB,bnd,bOr,di,fB,toB,ac,f1,f2,gw,dW,bM,eG,leX,h0,h1]
section
variable {T J a:Dv} {c:Nat}
theorem G3 (h:ax [a,.int 0,.int 20]=bo true):ay [a]=some (.ok .non):=by simp [ay,j4,bX,aE,sq,bP,aI,cC,bn,cB,bnd,bOr,qh,di,fB,toB,ai,aZ,aa,ah,ac,fC,f1,f2,ixD,atD,vOr,gw,oO,fIf,cD,cM,fB1,fM,cG,isN,dW,bM,dq,eA,eG,h]
theorem G4 (h:ax [a,.int 0,.int 20]=bo false):ay [a]=some (.exc 6):=by simp [ay,j4,bX,aE,sq,bP,aI,cC,bn,cB,bnd,bOr,qh,di,fB,toB,ai,aZ,aa,ah,ac,fC,f1,f2,ixD,atD,vOr,gw,oO,fIf,cD,cM,fB1,fM,cG,isN,dW,bM,dq,eA,eG,h]
theorem Fx (h:bj [T]=bo true):ao [T]=some (.ok .non):=by simp [ao,j4,bI,aE,sq,bP,aI,cC,bn,cB,bnd,bOr,qh,di,fB,toB,ai,aZ,aa,ah,ac,fC,f1,f2,ixD,atD,vOr,gw,oO,fIf,cD,cM,fB1,fM,cG,isN,dW,bM,dq,eA,eG,h]
theorem G5 (h:bj [T]=bo false):ao [T]=some (.exc 1):=by simp [ao,j4,bI,aE,sq,bP,aI,cC,bn,cB,bnd,bOr,qh,di,fB,toB,ai,aZ,aa,ah,ac,fC,f1,f2,ixD,atD,vOr,gw,oO,fIf,cD,cM,fB1,fM,cG,isN,dW,bM,dq,eA,eG,h]
theorem Fy (h:dg [J]=bo true):az [J]=some (.ok .non):=by simp [az,j4,cA,aE,sq,bP,aI,cC,bn,cB,bnd,bOr,qh,di,fB,toB,ai,aZ,aa,ah,ac,fC,f1,f2,ixD,atD,vOr,gw,oO,fIf,cD,cM,fB1,fM,cG,isN,dW,bM,dq,eA,eG,h]
theorem G6 (h:dg [J]=bo false):az [J]=some (.exc 5):=by simp [az,j4,cA,aE,sq,bP,aI,cC,bn,cB,bnd,bOr,qh,di,fB,toB,ai,aZ,aa,ah,ac,fC,f1,f2,ixD,atD,vOr,gw,oO,fIf,cD,cM,fB1,fM,cG,isN,dW,bM,dq,eA,eG,h]
theorem dY (F:List Dv→Option (Rs Dv)) {f:FnE} {ρ:Ev} (hf:f ρ=some (.ok a)) (h:F [a]=some (.ok .non)):cC (aZ F 1 (aa f ah)) ρ=some (.nx ρ):=uv (cE F (ae hf ar) rfl h)
theorem dX (F:List Dv→Option (Rs Dv)) {f:FnE} {ρ:Ev} (hf:f ρ=some (.ok a)) (h:F [a]=some (.exc c)):cC (aZ F 1 (aa f ah)) ρ=some (.exc c):=GQ (cE F (ae hf ar) rfl h)
end
theorem sV {r:Nat} (h:r≤20):ay [.int r]=some (.ok .non):=G3 (y1 h)
theorem sW:((eW rules).all fun t=>okY (bj [.tup t]))=true:=by kernel_rfl
theorem iB {t:List Dv} (ht:t∈eW rules):bj [.tup t]=bo true:=lv (bY (p:=fun t=>okY (bj [.tup t])) sW ht)
theorem sX (ht:t∈eW rules) (J:Jar xs) (nd:xs.Nodup) (he:e≤20) (hm:m≤20):bf [.tup t,ej xs,.int e,.int m]=some (.ok (ej (j5 (gnm t) (lxN xs) xs e m))):=by
 refine Ct ?_
 show aV [some (.tup t),some (ej xs),some (.int e),some (.int m)]=_
 unfold aV
 rw [av (dY ao rfl (Fx (iB ht))),av (dY az rfl (Fy (yU J))),av (dY ay rfl (sV he)),av (dY ay rfl (sV hm))]
 exact c9 (aR (ae rfl (ae rfl (ae rfl (ae rfl ar)))) rfl (CS ht J.g J.l (vB nd)))
end
section
variable {t:List Dv} {js xs:List aB} {e m:Nat}
def row (t:List Dv) (xs:List aB) (g:Str):Dv:=.tup [.str g,.int (mem (gnm t) xs g).length]
theorem wp (g:Str):zg ((xs.map (gnm t)).map Dv.str) [.str g]=some (.ok (.int (mem (gnm t) xs g).length))∨100000 < xs.length:=by
 by_cases hl:xs.length≤100000
 · left
   have h1:((xs.map (gnm t)).map Dv.str).all cg=true:=by simp [ON,cg]
   have h2:((xs.map (gnm t)).map Dv.str).countP (fun y=>eqF y (.str g))=(mem (gnm t) xs g).length:=by
    rw [IC,Pj]
    unfold mem
    rw [List.countP_eq_length_filter]
    congr 1
    apply KD
    intro n _
    show seq (gnm t n) g=_
    rw [← mY,HG]
    simp
   show (if _ then some (Rs.ok (Dv.int (((xs.map (gnm t)).map Dv.str).countP (fun y=>eqF y (.str g)):Nat))) else none)=_
   rw [h1,h2,if_pos (by simp [cg,hl])]
 · right; omega
theorem sY (ht:t∈eW rules) (J:Jar xs):bK [.tup t,ej xs]=some (.ok (.lst ((gls t xs).map (row t xs)))):=by
 have hl:=J.l
 refine Ct ?_
 show bJ [some (.tup t),some (ej xs),none]=_
 unfold bJ
 rw [av (dY ao rfl (Fx (iB ht))),av (dY az rfl (Fy (yU J)))]
 have e1:(bh [("table",0)] (bZ (ac 1)) none (ai aJ 2 (aa (ac 1) (aa (ac 0) ah)))) [some (.tup t),some (ej xs),none]=some (.ok (.lst ((xs.map (gnm t)).map Dv.str))):=by
  rw [IC]
  exact ce enc (fun n=>.str (gnm t n)) (gh rfl) (by omega) fun n hn=>gX aJ rfl rfl (vD ht (J.g n hn)).1
 rw [av (aX e1 rfl)]
 simp only [Iz,Iy]
 refine c9 ?_
 have hgl:(gls t xs).length≤18:=by
  unfold gls
  rw [(isortB_perm leS _).length_eq]
  have:=ST.ddk_le (xs.map (gnm t))
  simp at this
  omega
 refine ce Dv.str (row t xs) (oy ((cF (ae (x:=.lst ((xs.map (gnm t)).map Dv.str)) rfl ar)).trans (dS (by simp; omega)))) (by show (gls t xs).length≤100000; omega) fun g hg=>?_
 refine jz (ae rfl (ae ?_ ar)) (by show 2≤100000; decide)
 have:=(wp (t:=t) (xs:=xs) g).resolve_right (by omega)
 exact this
end
end G
namespace RM
open PySem PySem.Spec FD
variable {α:Type} [DecidableEq α] {lt:α→α→Bool}
def gk (lt:α→α→Bool) (a:α):List α→α
 | []=>a
 | b :: l=>gk lt (if lt b a=true then b else a) l
def sel (lt:α→α→Bool):Nat→List α→List α
 | 0,_=>[]
 | _ + 1,[]=>[]
 | k + 1,a :: l=>gk lt a (a :: l) :: sel lt k ((a :: l).erase (gk lt a (a :: l)))
theorem fK (T:Tot lt) (tri:∀ a b,a≠b→lt a b=true∨lt b a=true):∀ (l:List α) (a:α),(gk lt a l=a∨gk lt a l∈l)∧∀ x,x=a∨x∈l→x=gk lt a l∨lt (gk lt a l) x=true
 | [],a=>⟨.inl rfl,fun x h=>by
  rcases h with h | h
  · exact .inl h
  · cases h⟩
 | b :: l,a=>by
  obtain ⟨h1,h2⟩:=fK T tri l (if lt b a=true then b else a)
  unfold gk
  by_cases hb:lt b a=true
  · simp only [hb,if_true] at h1 h2 ⊢
    refine ⟨?_,fun x hx=>?_⟩
    · rcases h1 with h | h
      · exact .inr (by rw [h]; exact g_)
      · exact .inr (l_ _ h)
    · rcases hx with rfl | hx
      · right
        rcases h2 b (.inl rfl) with h | h
        · rw [← h]; exact hb
        · exact T.tr _ _ _ h hb
      · rcases on.mp hx with rfl | hx
        · exact h2 x (.inl rfl)
        · exact h2 x (.inr hx)
  · simp only [hb,if_false] at h1 h2 ⊢
    refine ⟨?_,fun x hx=>?_⟩
    · rcases h1 with h | h
      · exact .inl h
      · exact .inr (l_ _ h)
    · rcases hx with rfl | hx
      · exact h2 x (.inl rfl)
      · rcases on.mp hx with rfl | hx
        · by_cases e:x=a
          · exact h2 x (.inl e)
          · have hax:lt a x=true:=by
             rcases tri x a e with h | h
             · exact absurd h hb
             · exact h
            right
            rcases h2 a (.inl rfl) with h | h
            · rw [← h]; exact hax
            · exact T.tr _ _ _ h hax
        · exact h2 x (.inr hx)
theorem mH (T:Tot lt) (tri:∀ a b,a≠b→lt a b=true∨lt b a=true) (r:Nat):∀ (k:Nat) (L:List α),L.Nodup→L.length - r=k→∀ n,n∈sel lt k L↔n∈L∧¬ (above lt L n < r)
 | 0,L,nd,hk,n=>by
  refine ⟨fun h=>(by unfold sel at h; cases h),fun ⟨h1,h2⟩=>absurd (x_ (jV T h1) (by omega)) h2⟩
 | k + 1,[],nd,hk,n=>by simp at hk
 | k + 1,a :: l,nd,hk,n=>by
  obtain ⟨h1,h2⟩:=fK T tri (a :: l) a
  have hm:gk lt a (a :: l)∈a :: l:=by
   rcases h1 with h | h
   · rw [h]; exact g_
   · exact h
  generalize hmm:gk lt a (a :: l)=m at h1 h2 hm
  have hmin:∀ x∈a :: l,x≠m→lt m x=true:=fun x hx hne=>by
   rcases h2 x (.inr hx) with h | h
   · exact absurd h hne
   · exact h
  unfold sel
  rw [hmm,on,mH T tri r k ((a :: l).erase m) (nd.erase m) (by rw [JW hm]; simp at hk ⊢; omega) n]
  have hp:(a :: l).Perm (m :: (a :: l).erase m):=List.perm_cons_erase hm
  have hnm:m ∉ (a :: l).erase m:=nd.not_mem_erase
  have hab:∀ x,above lt (a :: l) x=above lt ((a :: l).erase m) x + if lt x m=true then 1 else 0:=fun x=>by
   rw [jd hp]
   unfold above
   rw [Kh]
  have hall:above lt ((a :: l).erase m) m=((a :: l).erase m).length:=by
   unfold above
   rw [Ny]
   intro x hx
   exact hmin x (LJ hx) (fun e=>hnm (e ▸ hx))
  constructor
  · rintro (rfl | ⟨h3,h4⟩)
    · refine ⟨hm,?_⟩
      rw [hab,hall,JW hm]
      simp at hk ⊢
      omega
    · refine ⟨LJ h3,?_⟩
      rw [hab]
      omega
  · rintro ⟨h3,h4⟩
    by_cases e:n=m
    · exact .inl e
    · right
      refine ⟨(NP e).mpr h3,?_⟩
      have hx:lt n m=false:=by
       cases hq:lt n m with
       | false=>rfl
       | true =>
        have:=T.tr _ _ _ hq (hmin n h3 e)
        rw [T.ir] at this
        cases this
      rw [hab,hx] at h4
      simpa using h4
end RM
namespace G
open PySem PySem.Spec PyProof.Rows L2 FD TS RM
def N0:aB:=⟨a_ "",a_ "",a_ "",false,a_ "",none,false,a_ "",0,0⟩
def nt (xs:List aB) (i:Nat):aB:=xs.getD i N0
theorem mI {xs:List aB} {i:Nat} (h:i < xs.length):nt xs i=xs[i]:=by simp [nt,Kg,h]
theorem CU {xs:List aB} {i:Nat} (h:i < xs.length):ixD (ej xs) (.int i)=some (.ok (enc (nt xs i))):=by rw [mI h]; exact yR h
def pz (ps:List Nat):List Dv:=ps.map fun p:Nat=>Dv.int (p:Int)
def CV (xs:List aB) (i:Nat):List Dv:=[.bl (nt xs i).S,.int (nt xs i).us,.int (i:Int)]
def lp (xs:List aB) (i j:Nat):Bool:=ltL (CV xs i) (CV xs j)
theorem y2 (xs:List aB) (i j:Nat):lp xs i j=(ltN (nt xs i) (nt xs j) || (!ltN (nt xs j) (nt xs i) && decide (i < j))):=by
 unfold lp ltN CV pB
 generalize (nt xs i).S=p
 generalize (nt xs j).S=q
 generalize (nt xs i).us=u
 generalize (nt xs j).us=v
 have h1:(u < v∧¬ u=v∧¬ v=u∧¬ v < u)∨u=v∨(v < u∧¬ u=v∧¬ v=u∧¬ u < v):=by omega
 have h2:(i < j∧¬ i=j)∨i=j∨(¬ i < j∧¬ i=j∧j < i):=by omega
 rcases h1 with ⟨a1,a2,a3,a4⟩ | rfl | ⟨a1,a2,a3,a4⟩ <;> rcases h2 with ⟨b1,b2⟩ | rfl | ⟨b1,b2,b3⟩ <;> cases p <;> cases q <;> simp [ltL,eqI,ltI,b2i, *] <;> omega
theorem oz (xs:List aB):Tot (lp xs):=⟨fun a=>nP _,fun a b c h h'=>nQ h h'⟩
theorem oA (xs:List aB) (a b:Nat) (h:a≠b):lp xs a b=true∨lp xs b a=true:=by
 rw [y2,y2]
 cases h1:ltN (nt xs a) (nt xs b) with
 | true=>exact .inl rfl
 | false =>
  cases h2:ltN (nt xs b) (nt xs a) with
  | true=>exact .inr rfl
  | false =>
   simp
   omega
def DS (P:Dv) (xs:List aB) (r:Nat) (g l:List Nat) (o5 o6:Option Dv):Ev:=[some P,some (ej xs),some (.int (r:Int)),some (.lst (pz g)),some (.lst (pz l)),o5,o6]
section
variable {P:Dv} {xs:List aB} {r:Nat} {g l:List Nat}
theorem CW {a b:Nat} (ha:a < xs.length) (hb:b < xs.length):aK (DS P xs r g l (some (.int (a:Int))) (some (.int (b:Int))))=some (.ok (lp xs b a)):=by
 unfold aK
 have i1:(f2 ixD (ac 1) (ac 6)) (DS P xs r g l (some (.int (a:Int))) (some (.int (b:Int))))=some (.ok (enc (nt xs b))):=(aY (x:=ej xs) (y:=.int (b:Int)) rfl rfl).trans (CU hb)
 have i2:(f2 ixD (ac 1) (ac 5)) (DS P xs r g l (some (.int (a:Int))) (some (.int (b:Int))))=some (.ok (enc (nt xs a))):=(aY (x:=ej xs) (y:=.int (a:Int)) rfl rfl).trans (CU ha)
 refine dt ((aY (x:=.tup (CV xs b)) (y:=.tup (CV xs a)) ?_ ?_).trans rfl)
 · exact jz (ae ((aY (y:=.int 6) i1 rfl).trans rfl) (ae ((aY (y:=.int 9) i1 rfl).trans rfl) (ae rfl ar))) (by show 3≤100000; decide)
 · exact jz (ae ((aY (y:=.int 6) i2 rfl).trans rfl) (ae ((aY (y:=.int 9) i2 rfl).trans rfl) (ae rfl ar))) (by show 3≤100000; decide)
theorem mJ:∀ (us:List Nat) (a:Nat) (o6:Option Dv),a < xs.length→(∀ p∈us,p < xs.length)→∃ o6',vh aK (ac 6) 6 5 (pz us) (DS P xs r g l (some (.int (a:Int))) o6)=some (DS P xs r g l (some (.int ((gk (lp xs) a us:Nat):Int))) o6')
 | [],a,o6,_,_=>⟨o6,rfl⟩
 | b :: us,a,o6,ha,hu=>by
  have hb:b < xs.length:=hu b g_
  have hu':∀ p∈us,p < xs.length:=fun p hp=>hu p (l_ _ hp)
  have hc:=CW (P:=P) (r:=r) (g:=g) (l:=l) ha hb
  have hs:(DS P xs r g l (some (.int (a:Int))) o6).set 6 (some (.int (b:Int)))=DS P xs r g l (some (.int (a:Int))) (some (.int (b:Int))):=rfl
  show ∃ o6',vh aK (ac 6) 6 5 (.int (b:Int) :: pz us) _=_
  unfold vh
  rw [hs,hc]
  unfold gk
  cases hl:lp xs b a with
  | true =>
   simp only [if_true]
   exact mJ us b (some (.int (b:Int))) hb hu'
  | false =>
   simp only [if_false]
   exact mJ us a (some (.int (b:Int))) ha hu'
theorem sZ (m:Nat):∀ l:List Nat,er (m:Int) (l.map fun p:Nat=>(p:Int))=(l.erase m).map fun p:Nat=>(p:Int)
 | []=>rfl
 | a :: l=>by
  rw [y_]
  unfold er
  by_cases h:a=m
  · subst h; simp
  · have h2:¬ ((a:Int)=(m:Int)):=by omega
    rw [if_neg h2,List.erase_cons_tail (by simpa using h),y_,sZ m l]
theorem td:∀ l:List Nat,jH (pz l)=some (l.map fun p:Nat=>(p:Int))
 | []=>rfl
 | a :: l=>by
  show (jH (pz l)).map _=_
  rw [td l]; rfl
theorem mK:∀ l:List Nat,imms (pz l)=true
 | []=>rfl
 | a :: l=>by
  show (imm (.int (a:Int)) && imms (pz l))=true
  rw [mK l]; rfl
theorem G7 (l:List Nat):(l.map fun p:Nat=>(p:Int)).map Dv.int=pz l:=by rw [IC]; rfl
theorem y3 {a:Nat} (o5 o6:Option Dv) (hg:g.length≤1000) (hl:∀ p∈a :: l,p < xs.length):∃ o6',aS (DS P xs r g (a :: l) o5 o6)=some (DS P xs r (g ++ [gk (lp xs) a (a :: l)]) ((a :: l).erase (gk (lp xs) a (a :: l))) (some (.int ((gk (lp xs) a (a :: l):Nat):Int))) o6'):=by
 obtain ⟨o6',h⟩:=mJ (P:=P) (r:=r) (g:=g) (l:=a :: l) (a :: l) a o6 (hl a g_) hl
 obtain ⟨q1,q2⟩:=fK (oz xs) (oA xs) (a :: l) a
 have hm:gk (lp xs) a (a :: l)∈a :: l:=by
  rcases q1 with h | h
  · rw [h]; exact g_
  · exact h
 generalize gk (lp xs) a (a :: l)=m at h hm
 refine ⟨o6',?_⟩
 unfold aS
 have e1:zn 5 (f2 ixD (ac 4) (fC (.int 0))) (DS P xs r g (a :: l) o5 o6)=some (DS P xs r g (a :: l) (some (.int (a:Int))) o6):=rfl
 have e2:lZ (bZ (ac 4)) aK (ac 6) 6 5 (DS P xs r g (a :: l) (some (.int (a:Int))) o6)=some (DS P xs r g (a :: l) (some (.int (m:Int))) o6'):=by
  unfold lZ
  have e:bZ (ac 4) (DS P xs r g (a :: l) (some (.int (a:Int))) o6)=some (.ok (pz (a :: l))):=rfl
  rw [e]
  simp only [mK,if_true]
  exact h
 have e3:ym 3 (ac 5) (DS P xs r g (a :: l) (some (.int (m:Int))) o6')=some (DS P xs r (g ++ [m]) (a :: l) (some (.int (m:Int))) o6'):=by
  have e:ym 3 (ac 5) (DS P xs r g (a :: l) (some (.int (m:Int))) o6')=if imm (.int (m:Int))=true∧(pz g).length < 100000 then some ((DS P xs r g (a :: l) (some (.int (m:Int))) o6').set 3 (some (.lst (pz g ++ [.int (m:Int)])))) else none:=rfl
  rw [e,if_pos ⟨rfl,by simp [pz]; omega⟩]
  have e':pz (g ++ [m])=pz g ++ [.int (m:Int)]:=by simp [pz]
  unfold DS
  rw [e']; rfl
 have e4:zo 4 (ac 5) (DS P xs r (g ++ [m]) (a :: l) (some (.int (m:Int))) o6')=some (DS P xs r (g ++ [m]) ((a :: l).erase m) (some (.int (m:Int))) o6'):=by
  have e:zo 4 (ac 5) (DS P xs r (g ++ [m]) (a :: l) (some (.int (m:Int))) o6')=match jH (pz (a :: l)) with
   | some is=>if (m:Int)∈is then some ((DS P xs r (g ++ [m]) (a :: l) (some (.int (m:Int))) o6').set 4 (some (.lst ((er (m:Int) is).map Dv.int)))) else none
   | none=>none:=rfl
  rw [e,td]
  simp only
  rw [if_pos (Iv.mpr ⟨m,hm,rfl⟩),sZ,G7]
  rfl
 show (zn 5 _ _).bind _=_
 rw [e1]
 show (lZ _ _ _ _ _ _).bind _=_
 rw [e2]
 show (ym _ _ _).bind _=_
 rw [e3]
 exact e4
theorem CY:∀ (n:Nat) (l g:List Nat) (o5 o6:Option Dv),l.length < n→g.length + l.length≤1000→(∀ p∈l,p < xs.length) →
 ∃ l' o5' o6',pWh (fB (f2 gtD (fB1 dj (aa (ac 4) ah)) (ac 2))) aS n (DS P xs r g l o5 o6)=some (DS P xs r (g ++ sel (lp xs) (l.length - r) l) l' o5' o6')
 | 0,l,_,_,_,h,_,_=>by omega
 | n + 1,l,g,o5,o6,h,hg,hl=>by
  have hc:(fB (f2 gtD (fB1 dj (aa (ac 4) ah)) (ac 2))) (DS P xs r g l o5 o6)=some (.ok (decide ((r:Int) < (l.length:Int)))):=by
   refine dt ((aY (x:=.int ((pz l).length:Int)) (y:=.int (r:Int)) ((cF (ae (x:=.lst (pz l)) rfl ar)).trans rfl) rfl).trans ?_)
   show some (Rs.ok (Dv.bl (decide ((r:Int) < ((pz l).length:Int)))))=_
   simp [pz]
  unfold pWh
  rw [hc]
  by_cases hr:r < l.length
  · have e:decide ((r:Int) < (l.length:Int))=true:=by simp; exact hr
    rw [e]
    cases l with
    | nil=>simp at hr
    | cons a l =>
     obtain ⟨o6',hs⟩:=y3 (P:=P) (r:=r) (g:=g) o5 o6 (by simp at hg; omega) hl
     simp only [hs]
     have hm:gk (lp xs) a (a :: l)∈a :: l:=by
      rcases (fK (oz xs) (oA xs) (a :: l) a).1 with h | h
      · rw [h]; exact g_
      · exact h
     have hle:=JW hm
     simp only [Il] at h hg hr hle
     obtain ⟨l',p5,p6,q⟩:=CY n ((a :: l).erase (gk (lp xs) a (a :: l))) (g ++ [gk (lp xs) a (a :: l)]) (some (.int ((gk (lp xs) a (a :: l):Nat):Int))) o6' (by omega) (by simp; omega) (fun p hp=>hl p (LJ hp))
     refine ⟨l',p5,p6,?_⟩
     show pWh _ _ n _=_
     rw [q]
     have hk:(a :: l).length - r=((a :: l).erase (gk (lp xs) a (a :: l))).length - r + 1:=by
      simp only [Il]
      omega
     rw [hk]
     have hsel:sel (lp xs) (((a :: l).erase (gk (lp xs) a (a :: l))).length - r + 1) (a :: l)=gk (lp xs) a (a :: l) :: sel (lp xs) (((a :: l).erase (gk (lp xs) a (a :: l))).length - r) ((a :: l).erase (gk (lp xs) a (a :: l))):=rfl
     rw [hsel,KG]
     rfl
  · have e:decide ((r:Int) < (l.length:Int))=false:=by simp; omega
    rw [e]
    refine ⟨l,o5,o6,?_⟩
    have:l.length - r=0:=by omega
    rw [this]
    show _=some (DS P xs r (g ++ []) l o5 o6)
    rw [JF]
theorem ji {ps:List Nat} (hp:∀ p∈ps,p < xs.length) (hl:ps.length≤20):bt [.lst (pz ps),ej xs,.int (r:Int)]=some (.ok (.lst (pz (sel (lp xs) (ps.length - r) ps)))):=by
 refine dA ?_
 show br [some (.lst (pz ps)),some (ej xs),some (.int (r:Int)),none,none,none,none]=_
 obtain ⟨l',o5,o6,h⟩:=CY (P:=.lst (pz ps)) (r:=r) 30 ps [] none none (by omega) (by simp; omega) hp
 have e:br [some (.lst (pz ps)),some (ej xs),some (.int (r:Int)),none,none,none,none]=if imms (pz ps)=true then (match pWh (fB (f2 gtD (fB1 dj (aa (ac 4) ah)) (ac 2))) aS 30 (DS (.lst (pz ps)) xs r [] ps none none) with
  | some ρ'=>aI (ac 3) ρ'
  | none=>none) else none:=rfl
 rw [e,if_pos (mK ps),h]
 rfl
end
end G
namespace G
open PySem PySem.Spec PyProof.Rows L2 FD
def pJ (t:List Dv) (h:Str):Bool:=match dO [.tup t,.str h],a5 [.tup t,.str h] with
 | some (.ok .non),some (.ok .non)=>true
 | some (.ok (.str a)),some (.ok (.str b))=>seq a b
 | _,_=>false
theorem G8:((bz 0).take 32).all (fun t=>En.all (pJ t))=true:=by kernel_rfl
theorem G9:((bz 1).take 32).all (fun t=>En.all (pJ t))=true:=by kernel_rfl
theorem Ha:((bz 2).take 32).all (fun t=>En.all (pJ t))=true:=by kernel_rfl
theorem Hb:((bz 3).take 32).all (fun t=>En.all (pJ t))=true:=by kernel_rfl
theorem Hc:((bz 4).take 32).all (fun t=>En.all (pJ t))=true:=by kernel_rfl
theorem Hd:((bz 5).take 32).all (fun t=>En.all (pJ t))=true:=by kernel_rfl
theorem He:((bz 6).take 32).all (fun t=>En.all (pJ t))=true:=by kernel_rfl
theorem Hh:((bz 7).take 32).all (fun t=>En.all (pJ t))=true:=by kernel_rfl
theorem CZ:(eW rules).all (fun t=>En.all (pJ t))=true:=ow (l:=bz 0) 32 G8 (ow (l:=bz 1) 32 G9 (ow (l:=bz 2) 32 Ha (ow (l:=bz 3) 32 Hb (ow (l:=bz 4) 32 Hc (ow (l:=bz 5) 32 Hd (ow (l:=bz 6) 32 He Hh))))))
theorem Fz {t:List Dv} (ht:t∈eW rules) {n:aB} (g:Good n):dO [.tup t,.str n.house]=a5 [.tup t,.str n.house]:=by
 have q:=bY (p:=pJ t) (bY (p:=fun t=>En.all (pJ t)) CZ ht) g.house
 unfold pJ at q
 split at q
 · rename_i a b; rw [a,b]
 · rename_i a b; rw [a,b,vv q]
 · cases q
end G
namespace G
open PySem PySem.Spec PyProof.Rows L2 FD TS RM
theorem lA {tst:FnB} {elt:FnE} {cap:Ev} {α:Type} (u v f:α→Dv) (p:α→Bool):∀ {l:List α},(∀ a∈l,tst ((cap.set 0 (some (u a))).set 1 (some (v a)))=some (.ok (p a))∧elt ((cap.set 0 (some (u a))).set 1 (some (v a)))=some (.ok (f a)))→fL (gP 0 1) (some tst) elt cap (l.map fun a=>.tup [u a,v a])=some ((l.filter p).map f)
 | [],_=>rfl
 | a :: l,h=>by
  have ih:=lA (tst:=tst) (elt:=elt) (cap:=cap) u v f p (l:=l) fun b hb=>h b (l_ _ hb)
  obtain ⟨h1,h2⟩:=h a g_
  rw [y_]
  unfold fL
  show (match tst ((cap.set 0 (some (u a))).set 1 (some (v a))) with | some (.ok true)=>_ | some (.ok false)=>_ | _=>_)=_
  rw [h1]
  cases hp:p a with
  | true=>simp only [h2,ih,O8,hp,if_true,y_]
  | false=>simp [ih,O8,hp]
theorem jj {cs:List (Str×Nat)} {src:FnA} {tst:FnB} {elt:FnE} {ρ:Ev} {α:Type} (u v f:α→Dv) (p:α→Bool) {l:List α} (hs:src ρ=some (.ok (l.map fun a=>.tup [u a,v a]))) (hl:l.length≤100000) (h:∀ a∈l,tst (((dv 2 cs ρ).set 0 (some (u a))).set 1 (some (v a)))=some (.ok (p a))∧elt (((dv 2 cs ρ).set 0 (some (u a))).set 1 (some (v a)))=some (.ok (f a))) :
 aG 2 cs src (gP 0 1) (some tst) elt ρ=some (.ok (.lst ((l.filter p).map f))):=by
 unfold aG
 rw [hs]
 show (match fL (gP 0 1) (some tst) elt (dv 2 cs ρ) (l.map fun a=>.tup [u a,v a]) with | some ys=>_ | none=>_)=_
 rw [lA u v f p h]
 dsimp only
 have:=Ip p l
 rw [if_pos ⟨by simp; omega,by simpa using hl⟩]
theorem tf:∀ (ys:List aB) (k:Nat) (g:Nat→aB),(∀ i (h:i < ys.length),g (k + i)=ys[i])→c8 k (ys.map enc)=(h_ ys.length).map fun i:Nat=>.tup [.int ((k + i:Nat):Int),enc (g (k + i))]
 | [],k,g,_=>rfl
 | y :: ys,k,g,h=>by
  have ih:=tf ys (k + 1) g fun i hi=>by
   have:=h (i + 1) (by simpa using hi)
   rw [show k + 1 + i=k + (i + 1) by omega,this]
   simp
  have h0:g k=y:=h 0 (by simp)
  rw [y_,Il,Kp,y_,IC]
  unfold c8
  rw [ih]
  congr 1
  · simp [h0]
  · apply KZ
    intro i _
    show _=Dv.tup [.int ((k + (i + 1):Nat):Int),enc (g (k + (i + 1)))]
    rw [show k + 1 + i=k + (i + 1) by omega]
theorem y4 (xs:List aB):c8 0 (xs.map enc)=(h_ xs.length).map fun i:Nat=>.tup [.int (i:Int),enc (nt xs i)]:=by
 rw [tf xs 0 (nt xs) fun i h=>by rw [Jr]; exact mI h]
 apply KZ
 intro i _
 rw [Jr]
theorem oB (i:Nat) (gs:List Nat):cH (.int (i:Int)) (.lst (pz gs))=some (.ok (.bl (!gs.any fun g=>decide (g=i)))):=by
 have e:inL (.int (i:Int)) (pz gs)=some (gs.any fun g=>decide (g=i)):=by
  unfold inL
  have h1:(pz gs).all cg=true:=by simp [pz,ON,cg]
  rw [h1]
  simp only [cg,N9,if_true,KB]
  unfold pz
  rw [List.any_map]
  congr 1
  funext g
  show ((g:Int) == (i:Int))=_
  rw [HG]
  simp
  omega
 unfold cH Be
 have e2:w5 (.int (i:Int)) (.lst (pz gs))=inL (.int (i:Int)) (pz gs):=rfl
 rw [e2,e]
section
variable {t:List Dv} {xs:List aB} {e m:Nat}
theorem iC (ht:t∈eW rules) {n:aB} (g:Good n):aD [.tup t,enc n]=some (.ok (.str (gnm t n))):=by
 have hw:=Fz ht g
 have q:=bY (p:=mG t) (bY (p:=fun t=>En.all (mG t)) wm ht) g.house
 unfold mG at q
 unfold gnm gK
 split at q
 · rename_i e
   rw [e] at hw ⊢
   simp [aD,bg,bS,aE,sq,bP,aI,bn,cB,bnd,fB,toB,ai,aa,ah,ac,fC,f2,ixD,atD,fIf,isN,enc,hw]
 · rename_i z e
   rw [e] at hw ⊢
   simp [aD,bg,bS,aE,sq,bP,aI,bn,cB,bnd,fB,toB,ai,aa,ah,ac,fC,f2,ixD,atD,fIf,isN,enc,hw]
 · cases q
def plc (t:List Dv) (xs:List aB) (g:Str):List Nat:=(h_ xs.length).filter fun i=>decide (gnm t (nt xs i)=g)
def drp (t:List Dv) (xs:List aB) (e:Nat) (g:Str):List Nat:=sel (lp xs) ((plc t xs g).length - e) (plc t xs g)
theorem iE {α:Type} [DecidableEq α] (lt:α→α→Bool):∀ (k:Nat) (L:List α),(sel lt k L).length≤k
 | 0,_=>Hq _
 | _ + 1,[]=>Hq _
 | k + 1,a :: l=>Nat.succ_le_succ (iE lt k _)
theorem oD {g:Str}:∀ p∈plc t xs g,p < xs.length:=fun p hp=>by
 have:=(HU.mp hp).1
 simpa using this
theorem mL {g:Str}:(plc t xs g).length≤xs.length:=by
 have:=Ip (fun i=>decide (gnm t (nt xs i)=g)) (h_ xs.length)
 simpa [plc] using this
def LS (t:List Dv) (xs:List aB) (e m:Nat) (g:List Nat) (o5 o6 o7:Option Dv):Ev:=[some (.tup t),some (ej xs),some (.int (e:Int)),some (.int (m:Int)),some (.lst (pz g)),o5,o6,o7]
theorem C7 (a b:List Nat):pz a ++ pz b=pz (a ++ b):=by simp [pz]
theorem wq {a b:List Nat} (h:a.length + b.length≤100000):ci (.lst (pz a)) (.lst (pz b))=some (.ok (.lst (pz (a ++ b)))):=by
 show (if (pz a).length + (pz b).length≤100000 then some (Rs.ok (Dv.lst (pz a ++ pz b))) else none)=_
 rw [if_pos (by simpa [pz] using h),C7]
theorem wt {ρ:Ev} {i:Nat} (h:ρ[i]?=some (some (ej xs))):(fun ρ=>bnd ((aa (ac i) ah) ρ) jF) ρ=some (.ok ((h_ xs.length).map fun i:Nat=>.tup [.int (i:Int),enc (nt xs i)])):=by
 have e1:(aa (ac i) ah) ρ=some (.ok [ej xs]):=ae (by unfold ac; rw [h]) ar
 show bnd ((aa (ac i) ah) ρ) jF=_
 rw [e1]
 show some (Rs.ok (c8 0 (xs.map enc)))=_
 rw [y4]
theorem y6 (hg:∀ n∈xs,Good n) {i:Nat} (h:i∈h_ xs.length):Good (nt xs i):=by
 have h':i < xs.length:=by simpa using h
 rw [mI h']
 exact hg _ (Ju h')
theorem FB (ht:t∈eW rules) (hg:∀ n∈xs,Good n) (hl:xs.length≤18) {gn:List Nat} (hgn:gn.length≤1000) (g:Str) :
 aP (LS t xs e m gn (some (.str g)) none none)=some (.nx (LS t xs e m (gn ++ drp t xs e g) (some (.str g)) (some (.lst (pz (plc t xs g)))) none)):=by
 unfold aP
 have e1:(aG 2 [("_law_table_here",0),("_law_name_here",5)] (fun ρ=>bnd ((aa (ac 1) ah) ρ) jF) (gP 0 1) (some (fB (f2 eqX (ai aD 2 (aa (ac 2) (aa (ac 1) ah))) (ac 3)))) (ac 0)) (LS t xs e m gn (some (.str g)) none none)=some (.ok (.lst (pz (plc t xs g)))) :=
  jj (fun i:Nat=>.int (i:Int)) (fun i=>enc (nt xs i)) (fun i:Nat=>.int (i:Int)) (fun i=>decide (gnm t (nt xs i)=g)) (wt rfl) (by simp; omega) fun i hi=>⟨dt ((aY (x:=.str (gnm t (nt xs i))) (y:=.str g) (gX aD rfl rfl (iC ht (y6 hg hi))) rfl).trans (sM _ _)),rfl⟩
 rw [av (aX e1 rfl)]
 simp only [LS,Iz,Iy]
 have hp:=mL (t:=t) (xs:=xs) (g:=g)
 have hd:(drp t xs e g).length≤18:=Hm (iE _ _ _) (by omega)
 refine aX (d:=.lst (pz (gn ++ drp t xs e g))) ?_ rfl
 exact (aY (x:=.lst (pz gn)) (y:=.lst (pz (drp t xs e g))) rfl (aR (ae (x:=.lst (pz (plc t xs g))) rfl (ae (x:=ej xs) rfl (ae (x:=.int (e:Int)) rfl ar))) rfl (ji oD (by omega)))).trans (wq (by omega))
def gon (t:List Dv) (xs:List aB) (e:Nat) (gl:List Str) (acc:List Nat):List Nat:=gl.foldl (fun acc g=>acc ++ drp t xs e g) acc
theorem C8 (ht:t∈eW rules) (hg:∀ n∈xs,Good n) (hl:xs.length≤18):∀ (gl:List Str) (acc:List Nat) (a b:Option Dv),acc.length + 18 * gl.length≤1000 →
 dU 5 [5,6] aP (gl.map Dv.str) (LS t xs e m acc a b none)=some (.nx (LS t xs e m (gon t xs e gl acc) none none none))
 | [],acc,a,b,_=>rfl
 | g :: gl,acc,a,b,h=>by
  unfold dU
  have e1:(fgt [5,6] (LS t xs e m acc a b none)).set 5 (some (.str g))=LS t xs e m acc (some (.str g)) none none:=rfl
  show (match aP ((fgt [5,6] (LS t xs e m acc a b none)).set 5 (some (.str g))) with | some (.nx ρ')=>dU 5 [5,6] aP (gl.map Dv.str) ρ' | o=>o)=_
  simp only [Il] at h
  rw [e1,FB ht hg hl (by omega) g]
  have hp:=mL (t:=t) (xs:=xs) (g:=g)
  have hd:(drp t xs e g).length≤18:=Hm (iE _ _ _) (by omega)
  exact C8 ht hg hl gl _ _ _ (by simp; omega)
theorem tj (i:Nat):∀ (gl:List Str) (acc:List Nat),i∈gon t xs e gl acc↔i∈acc∨∃ g∈gl,i∈drp t xs e g
 | [],acc=>by simp [gon]
 | g :: gl,acc=>by
  show i∈gon t xs e gl (acc ++ drp t xs e g)↔_
  rw [tj i gl,HC]
  simp [or_assoc]
theorem tq (hl:xs.length≤18):∀ (gl:List Str) (acc:List Nat),(gon t xs e gl acc).length≤acc.length + 18 * gl.length
 | [],acc=>by simp [gon]
 | g :: gl,acc=>by
  show (gon t xs e gl (acc ++ drp t xs e g)).length≤_
  have hp:=mL (t:=t) (xs:=xs) (g:=g)
  have hd:(drp t xs e g).length≤18:=Hm (iE _ _ _) (by omega)
  have:=tq hl gl (acc ++ drp t xs e g)
  simp at this ⊢
  omega
end
section
variable {t:List Dv} {xs:List aB} {e m:Nat}
theorem C9 (xs:List aB):(h_ xs.length).map (nt xs)=xs:=by
 apply M_ (by simp)
 intro i h1 h2
 simp only [O6,Om]
 exact mI h2
theorem y8 {p:Nat→Bool} {q:aB→Bool} (h:∀ i,i < xs.length→p i=q (nt xs i)):((h_ xs.length).filter p).map (nt xs)=xs.filter q:=by
 have e1:(h_ xs.length).filter p=(h_ xs.length).filter (q ∘ nt xs):=by
  apply KD
  intro i hi
  exact h i (by simpa using hi)
 rw [e1,← List.filter_map,C9]
theorem FF (nd:xs.Nodup) {i j:Nat} (hi:i < xs.length) (hj:j < xs.length):lp xs i j=lxN xs (nt xs i) (nt xs j):=by
 rw [y2]
 unfold lxN
 rw [mI hi,mI hj,ov nd hi,ov nd hj]
theorem y9 (nd:xs.Nodup) {L:List Nat} (hL:∀ p∈L,p < xs.length) {i:Nat} (hi:i < xs.length):above (lp xs) L i=above (lxN xs) (L.map (nt xs)) (nt xs i):=by
 unfold above
 rw [Pj]
 apply List.countP_congr
 intro j hj
 show lp xs i j=true↔lxN xs (nt xs i) (nt xs j)=true
 rw [FF nd hi (hL j hj)]
theorem wu {g:Str}:(plc t xs g).map (nt xs)=mem (gnm t) xs g:=y8 fun i _=>rfl
theorem rng_nd:(h_ xs.length).Nodup:=O2
theorem Da {g:Str}:(plc t xs g).Nodup:=rng_nd.filter _
theorem tt (nd:xs.Nodup) {g:Str} {i:Nat}:i∈drp t xs e g↔i < xs.length∧gnm t (nt xs i)=g∧¬ (above (lxN xs) (mem (gnm t) xs g) (nt xs i) < e):=by
 unfold drp
 rw [mH (oz xs) (oA xs) e _ _ Da rfl i]
 constructor
 · rintro ⟨h1,h2⟩
   have hi:=oD i h1
   rw [y9 nd oD hi,wu] at h2
   have:=(HU.mp h1).2
   exact ⟨hi,by simpa using this,h2⟩
 · rintro ⟨h1,h2,h3⟩
   refine ⟨HU.mpr ⟨by simpa using h1,by simpa using h2⟩,?_⟩
   rw [y9 nd oD h1,wu]
   exact h3
def g1 (t:List Dv) (xs:List aB) (e:Nat):List Nat:=gon t xs e (gls t xs) []
theorem wv (nd:xs.Nodup) {i:Nat} (hi:i < xs.length):i∈g1 t xs e↔¬ (above (lxN xs) (mem (gnm t) xs (gnm t (nt xs i))) (nt xs i) < e):=by
 unfold g1
 rw [tj]
 constructor
 · rintro (h | ⟨g,_,h⟩)
   · cases h
   · obtain ⟨_,h2,h3⟩:=(tt nd).mp h
     rw [h2]; exact h3
 · intro h
   right
   have hn:nt xs i∈xs:=by rw [mI hi]; exact Ju hi
   exact ⟨gnm t (nt xs i),wn hn,(tt nd).mpr ⟨hi,rfl,h⟩⟩
def rst (t:List Dv) (xs:List aB) (e:Nat):List Nat:=(h_ xs.length).filter fun i=>!(g1 t xs e).any fun g=>decide (g=i)
theorem tu (l:List Nat) (i:Nat):(l.any fun g=>decide (g=i))=decide (i∈l):=by
 rw [HG]
 simp
theorem Db (nd:xs.Nodup):(rst t xs e).map (nt xs)=gq (gnm t) (lxN xs) xs e:=y8 fun i hi=>by
 rw [tu,HG]
 simp only [Iw,decide_eq_false_iff_not,decide_eq_true_eq]
 rw [wv nd hi]
 exact MJ
theorem ww:∀ p∈rst t xs e,p < xs.length:=fun p hp=>by
 have:=(HU.mp hp).1
 simpa using this
theorem Dc:(rst t xs e).Nodup:=rng_nd.filter _
def g2 (t:List Dv) (xs:List aB) (e m:Nat):List Nat:=sel (lp xs) ((rst t xs e).length - m) (rst t xs e)
theorem Dd (nd:xs.Nodup):((h_ xs.length).filter fun i=>!(g1 t xs e ++ g2 t xs e m).any fun g=>decide (g=i)).map (nt xs)=j5 (gnm t) (lxN xs) xs e m:=by
 have hf:j5 (gnm t) (lxN xs) xs e m=xs.filter fun n=>decide (above (lxN xs) (gq (gnm t) (lxN xs) xs e) n < m) && decide (above (lxN xs) (mem (gnm t) xs (gnm t n)) n < e):=by
  show ((xs.filter _).filter _)=_
  rw [Oo]
 rw [hf]
 refine y8 fun i hi=>?_
 rw [tu,HG]
 simp only [Iw,decide_eq_false_iff_not,j_,decide_eq_true_eq,HC,not_or]
 have hr:i∈rst t xs e↔¬ i∈g1 t xs e:=by
  unfold rst
  rw [HU,tu]
  simp [hi]
 have h2:i∈g2 t xs e m↔i∈rst t xs e∧¬ (above (lxN xs) (gq (gnm t) (lxN xs) xs e) (nt xs i) < m):=by
  unfold g2
  rw [mH (oz xs) (oA xs) m _ _ Dc rfl i,y9 nd ww hi,Db nd]
 rw [h2,hr,wv nd hi]
 constructor
 · rintro ⟨a,b⟩
   have a':=MJ.mp a
   refine ⟨?_,a'⟩
   exact MJ.mp fun c=>b ⟨fun d=>d a',c⟩
 · rintro ⟨a,b⟩
   exact ⟨fun d=>d b,fun ⟨_,c⟩=>c a⟩
theorem tw:(gls t xs).length≤xs.length:=by
 unfold gls
 rw [(isortB_perm leS _).length_eq]
 have:=ST.ddk_le (xs.map (gnm t))
 simpa using this
theorem pD (ht:t∈eW rules) (hg:∀ n∈xs,Good n) (hl:xs.length≤18) (nd:xs.Nodup):bF [.tup t,ej xs,.int (e:Int),.int (m:Int)]=some (.ok (ej (j5 (gnm t) (lxN xs) xs e m))):=by
 refine dA ?_
 show bE [some (.tup t),some (ej xs),some (.int (e:Int)),some (.int (m:Int)),none,none,none,none]=_
 unfold bE
 rw [av (aX (d:=.lst []) rfl rfl)]
 simp only [Iz,Iy]
 have e1:(bh [("_law_table_here",0)] (bZ (ac 1)) none (ai aD 2 (aa (ac 1) (aa (ac 0) ah)))) (LS t xs e m [] none none none)=some (.ok (.lst ((xs.map (gnm t)).map Dv.str))):=by
  rw [IC]
  exact ce enc (fun n=>.str (gnm t n)) (gh rfl) (by omega) fun n hn=>gX aD rfl rfl (iC ht (hg n hn))
 have e2:(bZ (fB1 cO (aa (bh [("_law_table_here",0)] (bZ (ac 1)) none (ai aD 2 (aa (ac 1) (aa (ac 0) ah)))) ah))) (LS t xs e m [] none none none)=some (.ok ((gls t xs).map Dv.str)):=by
  exact oy ((cF (ae e1 ar)).trans (dS (by simp; omega)))
 have hgl:=tw (t:=t) (xs:=xs)
 show aE _ _ (LS t xs e m [] none none none)=_
 rw [av ((jx e2).trans (C8 ht hg hl (gls t xs) [] none none (by simp; omega)))]
 show aE _ _ (LS t xs e m (g1 t xs e) none none none)=_
 have e3:(aG 1 [("_law_gone",4)] (fun ρ=>bnd ((aa (fB1 dj (aa (ac 1) ah)) ah) ρ) gy) (gN 0) (some (fB (f2 cH (ac 0) (ac 1)))) (ac 0)) (LS t xs e m (g1 t xs e) none none none)=some (.ok (.lst (pz (rst t xs e)))):=by
  refine i8 (fun i:Nat=>.int (i:Int)) (fun i=>!(g1 t xs e).any fun g=>decide (g=i)) (fun i:Nat=>.int (i:Int)) ?_ (by simp; omega) fun i hi=>⟨dt ((aY (x:=.int (i:Int)) (y:=.lst (pz (g1 t xs e))) rfl rfl).trans (oB _ _)),rfl⟩
  have h1:(aa (fB1 dj (aa (ac 1) ah)) ah) (LS t xs e m (g1 t xs e) none none none)=some (.ok [.int (xs.length:Int)]):=by
   refine ae ((cF (ae (x:=ej xs) rfl ar)).trans ?_) ar
   show some (Rs.ok (Dv.int ((xs.map enc).length:Int)))=_
   simp
  show bnd ((aa (fB1 dj (aa (ac 1) ah)) ah) (LS t xs e m (g1 t xs e) none none none)) gy=_
  rw [lx h1,og (by omega),jT]
  congr 2
  apply KZ
  intro i _
  congr 1
  omega
 rw [av (aX e3 rfl)]
 show aE _ _ (LS t xs e m (g1 t xs e) none none (some (.lst (pz (rst t xs e)))))=_
 have hrl:(rst t xs e).length≤xs.length:=by
  have:=Ip (fun i=>!(g1 t xs e).any fun g=>decide (g=i)) (h_ xs.length)
  simpa [rst] using this
 have h2l:(g2 t xs e m).length≤18:=Hm (iE _ _ _) (by omega)
 have h1l:(g1 t xs e).length≤18 * 18:=by
  have:=tq (t:=t) (e:=e) hl (gls t xs) []
  unfold g1
  simp at this
  omega
 have e4:(f2 ci (ac 4) (ai bt 3 (aa (ac 7) (aa (ac 1) (aa (ac 3) ah))))) (LS t xs e m (g1 t xs e) none none (some (.lst (pz (rst t xs e)))))=some (.ok (.lst (pz (g1 t xs e ++ g2 t xs e m)))) :=
  (aY (x:=.lst (pz (g1 t xs e))) (y:=.lst (pz (g2 t xs e m))) rfl (aR (ae (x:=.lst (pz (rst t xs e))) rfl (ae (x:=ej xs) rfl (ae (x:=.int (m:Int)) rfl ar))) rfl (ji ww (by omega)))).trans (wq (by omega))
 rw [av (aX e4 rfl)]
 show aI _ (LS t xs e m (g1 t xs e ++ g2 t xs e m) none none (some (.lst (pz (rst t xs e)))))=_
 refine c9 ?_
 have e5:(aG 2 [("_law_gone",4)] (fun ρ=>bnd ((aa (ac 1) ah) ρ) jF) (gP 0 1) (some (fB (f2 cH (ac 0) (ac 2)))) (ac 1)) (LS t xs e m (g1 t xs e ++ g2 t xs e m) none none (some (.lst (pz (rst t xs e)))))=some (.ok (.lst ((j5 (gnm t) (lxN xs) xs e m).map enc))):=by
  rw [← Dd nd,IC]
  exact jj (fun i:Nat=>.int (i:Int)) (fun i=>enc (nt xs i)) (fun i=>enc (nt xs i)) (fun i=>!(g1 t xs e ++ g2 t xs e m).any fun g=>decide (g=i)) (wt rfl) (by simp; omega) fun i hi=>⟨dt ((aY (x:=.int (i:Int)) (y:=.lst (pz (g1 t xs e ++ g2 t xs e m))) rfl rfl).trans (oB _ _)),rfl⟩
 exact (cF (ae e5 ar)).trans rfl
end
def bT:FnE:=(fIf (fB (f2 eqX (ac 0) (fC (.int 0)))) (aZ bK 2 (aa (ac 1) (aa (ac 2) ah))) (aZ bf 4 (aa (ac 1) (aa (ac 2) (aa (ac 3) (aa (ac 4) ah))))))
def rf (k:Int):Dv:=.tup [.str "refused",.int k]
section
variable {T J a b d:Dv} {w:Int} {c:Nat}
theorem De (h:bT [some (.int w),some T,some J,some a,some b,none]=some (.ok d)):aA [.int w,T,J,a,b]=some (.ok d):=dA (by
 show xB 7 5 6 bT (ai aH 1 (aa (ac 5) ah)) [some (.int w),some T,some J,some a,some b,none]=_
 unfold xB
 rw [h])
theorem pE (h:bT [some (.int w),some T,some J,some a,some b,none]=some (.exc c)) (hc:c=1∨c=5∨c=6):aA [.int w,T,J,a,b]=some (.ok (rf c)):=dA (by
 show xB 7 5 6 bT (ai aH 1 (aa (ac 5) ah)) [some (.int w),some T,some J,some a,some b,none]=_
 unfold xB
 rw [h]
 have k1:(ai aH 1 (aa (ac 5) ah)) ((q_ 6 none).set 5 (some (.exn c)))=some (.ok (rf c)):=by
  rcases hc with rfl | rfl | rfl
  · exact lN aH rfl (by kernel_rfl)
  · exact lN aH rfl (by kernel_rfl)
  · exact lN aH rfl (by kernel_rfl)
 dsimp only
 rw [if_pos (by omega),k1])
theorem t0:bT [some (.int 0),some T,some J,some a,some b,none]=bK [T,J]:=by
 have e0:fB (f2 eqX (ac 0) (fC (.int 0))) [some (.int 0),some T,some J,some a,some b,none]=some (.ok true):=by kernel_rfl
 unfold bT
 rw [Ez e0]
 exact cE bK (ae (x:=T) rfl (ae (x:=J) rfl ar)) rfl rfl
theorem t1:bT [some (.int 1),some T,some J,some a,some b,none]=bf [T,J,a,b]:=by
 have e0:fB (f2 eqX (ac 0) (fC (.int 0))) [some (.int 1),some T,some J,some a,some b,none]=some (.ok false):=by kernel_rfl
 unfold bT
 rw [EA e0]
 exact cE bf (ae (x:=T) rfl (ae (x:=J) rfl (ae (x:=a) rfl (ae (x:=b) rfl ar)))) rfl rfl
theorem FH (h:bK [T,J]=some (.ok d)):aA [.int 0,T,J,a,b]=some (.ok d):=De (t0.trans h)
theorem FJ (h:bf [T,J,a,b]=some (.ok d)):aA [.int 1,T,J,a,b]=some (.ok d):=De (t1.trans h)
theorem FK (h:ao [T]=some (.exc c)):bK [T,J]=some (.exc c):=zp (by
 show bJ [some T,some J,none]=_
 unfold bJ
 exact zq (dX ao rfl h))
theorem FL (h1:ao [T]=some (.ok .non)) (h:az [J]=some (.exc c)):bK [T,J]=some (.exc c):=zp (by
 show bJ [some T,some J,none]=_
 unfold bJ
 rw [av (dY ao rfl h1)]
 exact zq (dX az rfl h))
theorem FM (h:ao [T]=some (.exc c)):bf [T,J,a,b]=some (.exc c):=zp (by
 show aV [some T,some J,some a,some b]=_
 unfold aV
 exact zq (dX ao rfl h))
theorem FN (h1:ao [T]=some (.ok .non)) (h:az [J]=some (.exc c)):bf [T,J,a,b]=some (.exc c):=zp (by
 show aV [some T,some J,some a,some b]=_
 unfold aV
 rw [av (dY ao rfl h1)]
 exact zq (dX az rfl h))
theorem FQ (h1:ao [T]=some (.ok .non)) (h2:az [J]=some (.ok .non)) (h:ay [a]=some (.exc c)):bf [T,J,a,b]=some (.exc c):=zp (by
 show aV [some T,some J,some a,some b]=_
 unfold aV
 rw [av (dY ao rfl h1),av (dY az rfl h2)]
 exact zq (dX ay rfl h))
theorem FR (h1:ao [T]=some (.ok .non)) (h2:az [J]=some (.ok .non)) (h3:ay [a]=some (.ok .non)) (h:ay [b]=some (.exc c)):bf [T,J,a,b]=some (.exc c):=zp (by
 show aV [some T,some J,some a,some b]=_
 unfold aV
 rw [av (dY ao rfl h1),av (dY az rfl h2),av (dY ay rfl h3)]
 exact zq (dX ay rfl h))
end
theorem za (ds:List Dv):bj [.lst ds]=bo false:=by simp [bj,bg,dR,aE,sq,bP,aI,cB,bnd,bOr,di,fB,toB,ac,fC,f1,dW,dq]
theorem zb (ds:List Dv):dg [.lst ds]=bo false:=by simp [dg,bg,dQ,aE,sq,bP,aI,cB,bnd,bOr,di,fB,toB,ac,fC,f1,dW,dq]
theorem Df (ns:List Int) (hl:ns.length≤63) {ρ:Ev} (h0:ρ[0]?=some (some (.scr ns))):∃ o,jQ ρ=some (.ok o)∧ax [o,.int 0,.int 20]=bo false:=by
 obtain ⟨d,a,b,e⟩:=aU ns hl 151 5 (by omega)
 have e':jQ ρ=ixD (.lst [.int (-1),.int 21,.non,.bl true,.str "1"]) (.int d):=aY rfl (sv ag (by unfold ac; rw [h0]) rfl rfl e)
 have hd:d=0∨d=1∨d=2∨d=3∨d=4:=by omega
 rw [e']
 rcases hd with rfl | rfl | rfl | rfl | rfl
 · exact ⟨.int (-1),by kernel_rfl,by kernel_rfl⟩
 · exact ⟨.int 21,by kernel_rfl,by kernel_rfl⟩
 · exact ⟨.non,by kernel_rfl,by kernel_rfl⟩
 · exact ⟨.bl true,by kernel_rfl,by kernel_rfl⟩
 · exact ⟨.str "1",by kernel_rfl,by kernel_rfl⟩
def kn1 (p:Str) (s:Bool) (o l:Int):aB:=⟨a_ "n",a_ "",a_ "a.b",false,p,none,s,a_ "any",o,l⟩
def kn:List aB:=[kn1 (a_ "/") false 0 9,kn1 (a_ "/x") false 1 5,kn1 (a_ "/y") true 1 3,kn1 (a_ "/z") false 2 6]
theorem jY {p:Str} {s:Bool} {o l:Int} (hp:p∈pths) (h0:0≤o) (h1:o≤l) (h2:l≤39):Good (kn1 p s o l) :=
 ⟨by simp [kn1,nms],by simp [kn1,wts],by simp [kn1,En,menu],hp,.inl rfl,(fun i h=>by cases h),h0,h1,h2⟩
theorem wx:Jar kn where
 g:=fun n hn=>by
  simp only [kn,on,Hn,or_false] at hn
  rcases hn with rfl | rfl | rfl | rfl
  · exact jY (by simp [pths,pth0]) (by omega) (by omega) (by omega)
  · exact jY (by simp [pths,pth0]) (by omega) (by omega) (by omega)
  · exact jY (by simp [pths,pth0]) (by omega) (by omega) (by omega)
  · exact jY (by simp [pths,pth0]) (by omega) (by omega) (by omega)
 s:=fun i h=>by
  have hi:i=0∨i=1∨i=2:=by simp [kn] at h; omega
  rcases hi with rfl | rfl | rfl <;> simp [kn,kn1]
 k:=by decide +kernel
 l:=by decide
theorem jZ {xs:List aB} (J:Jar xs):xs.Nodup:=by
 have:=J.k
 unfold List.Nodup at this ⊢
 rw [MH] at this
 exact this.imp fun h z=>h (by rw [z])
theorem dL {i:Nat} {js:List Nat} {body:FnS} {d:Dv} {ds:List Dv} {ρ ρ':Ev} (h:body ((fgt js ρ).set i (some d))=some (.nx ρ')):dU i js body (d :: ds) ρ=dU i js body ds ρ':=by
 show (match body ((fgt js ρ).set i (some d)) with | some (.nx ρ')=>dU i js body ds ρ' | o=>o)=_
 rw [h]
theorem pF {t:List Dv} {js l:List aB}:gq (gnm t) (lxN js) l 0=[]:=by unfold gq; simp
theorem vG {t:List Dv} {js l:List aB} {e:Nat}:j5 (gnm t) (lxN js) l e 0=[]:=by unfold j5 keep; simp
theorem pG {k:Nat} {d:Dv} (h:It1 k d) (hk:k≤64):neX d d=some (.ok (.bl false)):=yF (h.okP hk) h.p
theorem Dg {t:List Dv} {xs:List aB} {g:Str} (h:HQ (.str g)=true):It1 1 (row t xs g):=lq fun d hd=>by
 simp only [on,Hn,or_false] at hd
 rcases hd with rfl | rfl
 · exact et h
 · exact lr
theorem oE {α:Type} [DecidableEq α]:∀ (ks acc:List α) (x:α),x∈ks.foldl ST.addK acc→x∈ks∨x∈acc
 | [],acc,x,h=>.inr h
 | k :: ks,acc,x,h=>by
  rcases oE ks _ x h with q | q
  · exact .inl (l_ _ q)
  · unfold ST.addK at q
    split at q
    · exact .inr q
    · rcases on.mp q with rfl | q
      · exact .inl g_
      · exact .inr q
theorem zc {t:List Dv} {xs:List aB} (ht:t∈eW rules) (hg:∀ n∈xs,Good n) {g:Str} (h:g∈gls t xs):HQ (.str g)=true:=by
 unfold gls at h
 rw [(isortB_perm leS _).mem_iff] at h
 rcases oE _ _ _ h with q | q
 · obtain ⟨n,hn,rfl⟩:=Iv.mp q
   exact (vD ht (hg n hn)).2
 · simp at q
def LE (ns:List Int) (t:List Dv) (js:List aB) (o3 o4 o5 o6 o7 o8 o9 o10:Option Dv):Ev:=[some (.scr ns),some (.tup t),some (ej js),o3,o4,o5,o6,o7,o8,o9,o10]
section
variable {ns:List Int} {t:List Dv} {js:List aB} {o3 o4 o5 o6 o7 o8 o9 o10:Option Dv}
theorem iF (ht:t∈eW rules) {xs:List aB} (J:Jar xs) {e m:Nat} (he:e≤20) (hm:m≤20) :
 aA [.int 1,.tup t,ej xs,.int (e:Int),.int (m:Int)]=some (.ok (ej (j5 (gnm t) (lxN xs) xs e m)))∧bF [.tup t,ej xs,.int (e:Int),.int (m:Int)]=some (.ok (ej (j5 (gnm t) (lxN xs) xs e m))) :=
 ⟨FJ (sX ht J (jZ J) he hm),pD ht J.g J.l (jZ J)⟩
theorem oF {xs:List aB} (J:Jar xs) {e m:Nat}:∀ n∈j5 (gnm t) (lxN xs) xs e m,Good n:=fun n hn=>J.g n (fit_sub.subset hn)
theorem j3 (hl:ns.length≤63) (ht:t∈eW rules) (J:Jar js) (k:Nat):∃ x6 x7,iy (LE ns t js o3 o4 (some (.int (k:Int))) none o7 o8 o9 o10)=some (.nx (LE ns t js o3 o4 (some (.int (k:Int))) x6 x7 o8 o9 o10)):=by
 obtain ⟨d,a0,b0,e0⟩:=aU ns hl 150 2 (by omega)
 have hm:∃ M:Int,0 < M∧M≤9∧ixD (.lst [.int 3,.int 9]) (.int d)=some (.ok (.int M)):=by
  have hd:d=0∨d=1:=by omega
  rcases hd with rfl | rfl
  · exact ⟨3,by omega,by omega,rfl⟩
  · exact ⟨9,by omega,by omega,rfl⟩
 obtain ⟨M,m0,m1,eM⟩:=hm
 obtain ⟨e,a1,b1,e1⟩:=aU ns hl (140 + 2 * (k:Int)) M m0
 obtain ⟨m,a2,b2,e2⟩:=aU ns hl (141 + 2 * (k:Int)) 9 (by omega)
 obtain ⟨e',rfl⟩:∃ n:Nat,e=n:=⟨e.toNat,by omega⟩
 obtain ⟨m',rfl⟩:∃ n:Nat,m=n:=⟨m.toNat,by omega⟩
 have hmul:fj (.int 2) (.int (k:Int))=some (.ok (.int (2 * (k:Int)))):=jc (.inl (by omega))
 refine ⟨some (.int (e':Int)),some (.int (m':Int)),?_⟩
 unfold iy
 have w1:mx (LE ns t js o3 o4 (some (.int (k:Int))) none o7 o8 o9 o10)=some (.ok (.int (e':Int))) :=
  sv ag rfl ((aY (x:=.int 140) (y:=.int (2 * (k:Int))) rfl ((aY (x:=.int 2) (y:=.int (k:Int)) rfl rfl).trans hmul)).trans rfl) ((aY (x:=.lst [.int 3,.int 9]) (y:=.int d) rfl (sv ag rfl rfl rfl e0)).trans eM) e1
 rw [av (aX w1 rfl)]
 show aE _ _ (LE ns t js o3 o4 (some (.int (k:Int))) (some (.int (e':Int))) o7 o8 o9 o10)=_
 have w2:my (LE ns t js o3 o4 (some (.int (k:Int))) (some (.int (e':Int))) o7 o8 o9 o10)=some (.ok (.int (m':Int))) :=
  sv ag rfl ((aY (x:=.int 141) (y:=.int (2 * (k:Int))) rfl ((aY (x:=.int 2) (y:=.int (k:Int)) rfl rfl).trans hmul)).trans rfl) rfl e2
 rw [av (aX w2 rfl)]
 show bP _ _ _ (LE ns t js o3 o4 (some (.int (k:Int))) (some (.int (e':Int))) (some (.int (m':Int))) o8 o9 o10)=_
 obtain ⟨h1,h2⟩:=iF ht J (e:=e') (m:=m') (by omega) (by omega)
 refine b5 (dt ((aY (x:=ej (j5 (gnm t) (lxN js) js e' m')) (y:=ej (j5 (gnm t) (lxN js) js e' m')) (aR (ae (x:=.int 1) rfl (ae (x:=.tup t) rfl (ae (x:=ej js) rfl (ae (x:=.int (e':Int)) rfl (ae (x:=.int (m':Int)) rfl ar))))) rfl h1) (aR (ae (x:=.tup t) rfl (ae (x:=ej js) rfl (ae (x:=.int (e':Int)) rfl (ae (x:=.int (m':Int)) rfl ar)))) rfl h2)).trans (pG (yQ (oF J)) (by omega))))
theorem oG (ht:t∈eW rules) {m:Nat} (hm:m≤20):iz (LE ns t js o3 o4 o5 o6 (some (.int (m:Int))) o8 (some (ej kn)) o10)=some (.nx (LE ns t js o3 o4 o5 o6 (some (.int (m:Int))) o8 (some (ej kn)) o10)):=by
 unfold iz
 obtain ⟨h1,h2⟩:=iF ht wx (e:=m) (m:=20) hm (by omega)
 refine b5 (dt ((aY (x:=ej (j5 (gnm t) (lxN kn) kn m 20)) (y:=ej (j5 (gnm t) (lxN kn) kn m 20)) (aR (ae (x:=.int 1) rfl (ae (x:=.tup t) rfl (ae (x:=ej kn) rfl (ae (x:=.int (m:Int)) rfl (ae (x:=.int 20) rfl ar))))) rfl h1) (aR (ae (x:=.tup t) rfl (ae (x:=ej kn) rfl (ae (x:=.int (m:Int)) rfl (ae (x:=.int 20) rfl ar)))) rfl h2)).trans (pG (yQ (oF wx)) (by omega))))
theorem FU (k:Int):It1 1 (rf k):=lq fun d hd=>by
 simp only [on,Hn,or_false] at hd
 rcases hd with rfl | rfl
 · exact et (by decide +kernel)
 · exact lr
theorem tx (k:Int):zl (.lst [rf k]) (.int 2)=some (.ok (.lst [rf k,rf k])):=by
 show (if (0:Int)≤2∧[rf k].length * (2:Int).toNat≤100000∧(2:Int)≤100000 then some (Rs.ok (Dv.lst (q_ (2:Int).toNat [rf k]).flatten)) else none)=_
 rw [if_pos ⟨by decide,by show 2≤100000; decide,by decide⟩]
 rfl
theorem vH (k:Int):It1 2 (.lst [rf k,rf k]):=su fun d hd=>by
 simp only [on,Hn,or_false] at hd
 rcases hd with rfl | rfl <;> exact FU k
theorem tz (ρ:Ev):(fun ρ=>bnd ((aa (fC (.int 2)) ah) ρ) gy) ρ=some (.ok ([0,1].map fun i:Nat=>Dv.int (i:Int))):=by
 have h:(aa (fC (.int 2)) ah) ρ=some (.ok [.int ((2:Nat):Int)]):=ae rfl ar
 show bnd ((aa (fC (.int 2)) ah) ρ) gy=_
 rw [lx h,og (by omega)]
 rfl
theorem zd (ρ:Ev):(fun ρ=>bnd ((aa (fC (.int 3)) ah) ρ) gy) ρ=some (.ok [.int ((0:Nat):Int),.int ((1:Nat):Int),.int ((2:Nat):Int)]):=by
 have h:(aa (fC (.int 3)) ah) ρ=some (.ok [.int ((3:Nat):Int)]):=ae rfl ar
 show bnd ((aa (fC (.int 3)) ah) ρ) gy=_
 rw [lx h,og (by omega)]
 rfl
end
theorem vI (ns:List Int) (hl:ns.length≤63):sr [.scr ns]=some (.ok (.bl true)):=by
 obtain ⟨t,ht,eT⟩:=vx ns hl
 obtain ⟨js,now,eJ,J,hjl,_⟩:=CI ns hl 10 8 (by omega)
 have nd:=jZ J
 have gj:=J.g
 have T:=mF js
 have gsz:=tw (t:=t) (xs:=js)
 refine dA ?_
 show sk [some (.scr ns),none,none,none,none,none,none,none,none,none,none]=_
 unfold sk
 have w1:mq [some (.scr ns),none,none,none,none,none,none,none,none,none,none]=some (.ok (.tup t)):=gX bU rfl rfl eT
 rw [av (aX w1 rfl)]
 simp only [Iz,Iy]
 have w2:mr [some (.scr ns),some (.tup t),none,none,none,none,none,none,none,none,none]=some (.ok (ej js)):=sv dP rfl rfl rfl eJ
 rw [av (aX w2 rfl)]
 show aE _ _ (LE ns t js none none none none none none none none)=_
 have w3:ms (LE ns t js none none none none none none none none)=some (.ok (.lst ((js.map (gnm t)).map Dv.str))):=by
  rw [IC]
  exact ce enc (fun n=>.str (gnm t n)) (gh rfl) (by omega) fun n hn=>gX aD rfl rfl (iC ht (gj n hn))
 rw [av (aX w3 rfl)]
 show aE _ _ (LE ns t js (some (.lst ((js.map (gnm t)).map Dv.str))) none none none none none none none)=_
 have w4:mv (LE ns t js (some (.lst ((js.map (gnm t)).map Dv.str))) none none none none none none none)=some (.ok (.lst ((gls t js).map (row t js)))):=by
  refine lm Dv.str (row t js) (oy ((cF (ae (x:=.lst ((js.map (gnm t)).map Dv.str)) rfl ar)).trans (dS (by simp; omega)))) (by show (gls t js).length≤100000; omega) fun g hg=>?_
  refine jz (ae rfl (ae ?_ ar)) (by show 2≤100000; decide)
  have:=(wp (t:=t) (xs:=js) g).resolve_right (by omega)
  exact this
 rw [av (aX w4 rfl)]
 show aE _ _ (LE ns t js (some (.lst ((js.map (gnm t)).map Dv.str))) (some (.lst ((gls t js).map (row t js)))) none none none none none none)=_
 generalize (some (.lst ((js.map (gnm t)).map Dv.str)):Option Dv)=o3
 have q0:mw (LE ns t js o3 (some (.lst ((gls t js).map (row t js)))) none none none none none none)=some (.ok false):=by
  refine dt ((aY (x:=.lst ((gls t js).map (row t js))) (y:=.lst ((gls t js).map (row t js))) (aR (ae (x:=.int 0) rfl (ae (x:=.tup t) rfl (ae (x:=ej js) rfl (ae (x:=.int 0) rfl (ae (x:=.int 0) rfl ar))))) rfl (FH (sY ht J))) rfl).trans (pG (k:=2) (su fun d hd=>?_) (by omega)))
  obtain ⟨g,hg,rfl⟩:=Iv.mp hd
  exact Dg (zc ht gj hg)
 rw [av (b5 q0)]
 generalize (some (.lst ((gls t js).map (row t js))):Option Dv)=o4
 obtain ⟨a1,b1,h1⟩:=j3 (o3:=o3) (o4:=o4) (o7:=none) (o8:=none) (o9:=none) (o10:=none) hl ht J 0
 obtain ⟨a2,b2,h2⟩:=j3 (o3:=o3) (o4:=o4) (o7:=b1) (o8:=none) (o9:=none) (o10:=none) hl ht J 1
 obtain ⟨a3,b3,h3⟩:=j3 (o3:=o3) (o4:=o4) (o7:=b2) (o8:=none) (o9:=none) (o10:=none) hl ht J 2
 have hf:oP 5 [5,6] (fun ρ=>bnd ((aa (fC (.int 3)) ah) ρ) gy) iy (LE ns t js o3 o4 none none none none none none)=some (.nx (LE ns t js o3 o4 none none b3 none none none)):=by
  rw [jx (zd _),dL (ρ:=LE ns t js o3 o4 none none none none none none) h1,dL h2,dL h3]
  rfl
 rw [av hf]
 generalize b3=o7
 rw [av (aX (v:=mz) (d:=.lst [.tup [.str "/",.bl false,.int 0,.int 9],.tup [.str "/x",.bl false,.int 1,.int 5],.tup [.str "/y",.bl true,.int 1,.int 3],.tup [.str "/z",.bl false,.int 2,.int 6]]) rfl rfl)]
 simp only [LE,Iz,Iy]
 rw [av (aX (v:=mB) (d:=ej kn) (by kernel_rfl) rfl)]
 simp only [Iz,Iy]
 generalize (some (.lst [.tup [.str "/",.bl false,.int 0,.int 9],.tup [.str "/x",.bl false,.int 1,.int 5],.tup [.str "/y",.bl true,.int 1,.int 3],.tup [.str "/z",.bl false,.int 2,.int 6]]):Option Dv)=o8
 show aE _ _ (LE ns t js o3 o4 none none o7 o8 (some (ej kn)) none)=_
 have hf2:oP 7 [7] (bZ (cD (aa (fC (.int 1)) (aa (fC (.int 2)) ah)))) iz (LE ns t js o3 o4 none none o7 o8 (some (ej kn)) none)=some (.nx (LE ns t js o3 o4 none none none o8 (some (ej kn)) none)):=by
  rw [jx (ds:=[.int ((1:Nat):Int),.int ((2:Nat):Int)]) rfl,dL (ρ:=LE ns t js o3 o4 none none o7 o8 (some (ej kn)) none) (oG ht (m:=1) (by omega)),dL (oG ht (m:=2) (by omega))]
  rfl
 rw [av hf2]
 have q3:jP (LE ns t js o3 o4 none none none o8 (some (ej kn)) none)=some (.ok false):=by
  unfold jP
  have z0:fB (f2 neX (ai aA 5 (aa (fC (.int 1)) (aa (ac 1) (aa (ac 2) (aa (fC (.int 20)) (aa (fC (.int 20)) ah)))))) (ac 2)) (LE ns t js o3 o4 none none none o8 (some (ej kn)) none)=some (.ok false) :=
   dt ((aY (x:=ej js) (y:=ej js) (aR (ae (x:=.int 1) rfl (ae (x:=.tup t) rfl (ae (x:=ej js) rfl (ae (x:=.int ((20:Nat):Int)) rfl (ae (x:=.int ((20:Nat):Int)) rfl ar))))) rfl ((iF ht J (e:=20) (m:=20) (by omega) (by omega)).1.trans (by rw [yW T (by omega) (by omega)]))) rfl).trans (pG (yQ gj) (by omega)))
  rw [Ey z0]
  exact dt ((aY (x:=.tup []) (y:=.tup []) (aR (ae (x:=.int 1) rfl (ae (x:=.tup t) rfl (ae (x:=ej js) rfl (ae (x:=.int ((0:Nat):Int)) rfl (ae (x:=.int ((20:Nat):Int)) rfl ar))))) rfl ((iF ht J (e:=0) (m:=20) (by omega) (by omega)).1.trans (by rw [oo T (by omega),pF]; rfl))) (by kernel_rfl)).trans (by kernel_rfl))
 rw [av (b5 q3)]
 have q4:mC (LE ns t js o3 o4 none none none o8 (some (ej kn)) none)=some (.ok false) :=
  dt ((aY (x:=.tup []) (y:=.tup []) (aR (ae (x:=.int 1) rfl (ae (x:=.tup t) rfl (ae (x:=ej js) rfl (ae (x:=.int ((20:Nat):Int)) rfl (ae (x:=.int ((0:Nat):Int)) rfl ar))))) rfl ((iF ht J (e:=20) (m:=0) (by omega) (by omega)).1.trans (by rw [vG]; rfl))) (by kernel_rfl)).trans (by kernel_rfl))
 rw [av (b5 q4)]
 obtain ⟨od,e8,hod⟩:=Df ns hl (ρ:=LE ns t js o3 o4 none none none o8 (some (ej kn)) none) rfl
 rw [av (aX e8 rfl)]
 show aE _ _ (LE ns t js o3 o4 none none none o8 (some (ej kn)) (some od))=_
 generalize (some (ej kn):Option Dv)=o9
 have ty:=Fx (iB ht)
 have jy:=Fy (yU J)
 have tn:=G5 (za t)
 have jn:=G6 (zb (js.map enc))
 have rn:=G4 hod
 have r3:ay [.int 3]=some (.ok .non):=sV (r:=3) (by omega)
 have q5:mD (LE ns t js o3 o4 none none none o8 o9 (some od))=some (.ok false):=by
  refine dt ((aY (x:=.lst [rf 6,rf 6]) (y:=.lst [rf 6,rf 6]) ?_ ((aY (x:=.lst [rf 6]) (y:=.int 2) rfl rfl).trans (tx 6))).trans (pG (vH 6) (by omega)))
  refine xz (ae (x:=rf 6) ?_ (ae (x:=rf 6) ?_ ar)) (by show 2≤100000; decide)
  · exact aR (ae (x:=.int 1) rfl (ae (x:=.tup t) rfl (ae (x:=ej js) rfl (ae (x:=od) rfl (ae (x:=.int 3) rfl ar))))) rfl (pE (t1.trans (FQ ty jy rn)) (.inr (.inr rfl)))
  · exact aR (ae (x:=.int 1) rfl (ae (x:=.tup t) rfl (ae (x:=ej js) rfl (ae (x:=.int 3) rfl (ae (x:=od) rfl ar))))) rfl (pE (t1.trans (FR ty jy r3 rn)) (.inr (.inr rfl)))
 rw [av (b5 q5)]
 have q6:mE (LE ns t js o3 o4 none none none o8 o9 (some od))=some (.ok false):=by
  refine dt ((aY (x:=.lst [rf 5,rf 5]) (y:=.lst [rf 5,rf 5]) ?_ ((aY (x:=.lst [rf 5]) (y:=.int 2) rfl rfl).trans (tx 5))).trans (pG (vH 5) (by omega)))
  refine ce (l:=[0,1]) (fun i:Nat=>.int (i:Int)) (fun _=>rf 5) (tz _) (by decide) fun i hi=>?_
  have hi':i=0∨i=1:=by simpa using hi
  refine aR (ae (x:=.int (i:Int)) rfl (ae (x:=.tup t) rfl (ae (x:=.lst (js.map enc)) rfl (ae (x:=od) rfl (ae (x:=od) rfl ar))))) rfl ?_
  rcases hi' with rfl | rfl
  · exact pE (t0.trans (FL ty jn)) (.inr (.inl rfl))
  · exact pE (t1.trans (FN ty jn)) (.inr (.inl rfl))
 rw [av (b5 q6)]
 refine c9 ?_
 refine (aY (x:=.lst [rf 1,rf 1]) (y:=.lst [rf 1,rf 1]) ?_ ((aY (x:=.lst [rf 1]) (y:=.int 2) rfl rfl).trans (tx 1))).trans (yG ((vH 1).okP (by omega)) (vH 1).p)
 refine ce (l:=[0,1]) (fun i:Nat=>.int (i:Int)) (fun _=>rf 1) (tz _) (by decide) fun i hi=>?_
 have hi':i=0∨i=1:=by simpa using hi
 refine aR (ae (x:=.int (i:Int)) rfl (ae (x:=.lst t) rfl (ae (x:=.lst (js.map enc)) rfl (ae (x:=od) rfl (ae (x:=od) rfl ar))))) rfl ?_
 rcases hi' with rfl | rfl
 · exact pE (t0.trans (FK tn)) (.inl rfl)
 · exact pE (t1.trans (FM tn)) (.inl rfl)
end G
namespace G
open PySem PySem.Spec PyProof.Rows L2 FD
theorem walk {l:No} {q:Program} {loose:List Str} {XP:(Str→Option Value)→Heap→Prop} {YP:D_→Heap→Prop} {d:DefRec} {K:NH→ck} (hn:l.most=some 63) (hdf:d.params.defaults=[])
 (hY:∀ (w:D_) (h:Heap),YP w h→(K w.params).In h)
 (F:∀ (w:D_) (mg:Str→Option Value) (fa:Addr) (h:Heap),(K w.params).In h→h.Ns C_ mg→mg d.name=some (.ref fa) →
   ∃ fd:Iu,(∀ (s:c_) (u:Value),MG s fd ⟨[u],[]⟩ [("_law_script",u)])∧∀ base:Heap,(K w.params).In base→base.Ns C_ mg→FnOk l.prog w (K w.params) mg base CX0 9 fa fd ["_law_script"] (spF (K w.params) sr 1)) :
 PB q loose XP YP l.row.toRowW d [] (fun f vs=>Pq f vs) :=
 L2.walk_of (n:=63) (k:=9) (x:="_law_script") (CX:=fun _=>CX0) (sp:=fun w=>spF (K w.params) sr 1) hn (by decide) hdf ⟨rfl,by decide,by decide⟩ hY F
  (fun _ _ a ns hl _ hS=>⟨[.scr ns],⟨.ref a,[],rfl,⟨a,rfl,hS⟩,rfl⟩,rfl,by rw [vI ns hl]; exact fun v H' _ r=>r⟩) fun _ _ _ _ _ z=>z
end G
open PySem PySem.W PyProof.Rows
set_option maxRecDepth 100000 in
theorem PySem.Challenge.cw_notejar_k60_room_holds : PySem.Challenge.rw_notejar_k60_room.Holds := by
 refine G.hld fun said=>?_
 refine PySem.W.holds_open (q:=G.VQ) (loose:=G.VL) (Xt:=fun s=>recOk [] s) (XP:=fun _ _=>True) (Yf:=Hook.obs (PJ G.KK G.KA G.KA_ok)) (Ya:=Hook.val (PJ G.KK G.KA G.KA_ok)) (YP:=Hook.says (PJ G.KK G.KA G.KA_ok)) (N:=7108) G.left (Hook.of (PJ G.KK G.KA G.KA_ok)) (Hook.keeps (PJ G.KK G.KA G.KA_ok)) (fun _ _=>trivial) (fun _ _ _ _ _=>trivial) (by rfl) (by rfl) (by rfl) (fun s e=>recFacts_of e) (by rfl) (by first | assumption | decide +kernel) (by decide +kernel) G.hbr ?hw ?hc
 (case hw=>w_witness2)
 refine G.walk (l:=PySem.Challenge.rw_notejar_k60_room) rfl rfl (fun w h Y=>PySem.W.kIn_of Y) ?F
 case F =>
  intro w mg fa h KX hG hmg
  exact G.all_mk (C0:=37) (C1:=49) (C2:=61) (C3:=73) (C4:=85) (C5:=97) (C6:=109) (CJ:=24) KX hG hmg (G.af 327 "law_notejar_k60_room" 623 326) (G.af 334 "law_notejar_k60_room" 623 333) (G.af 415 "law_notejar_k60_room" 623 414) (G.af 365 "law_notejar_k60_room" 623 364) (G.af 370 "law_notejar_k60_room" 623 369) (G.af 375 "law_notejar_k60_room" 623 374) (G.af 408 "law_notejar_k60_room" 623 407) (G.af 420 "law_notejar_k60_room" 623 419) (G.af 341 "law_notejar_k60_room" 623 340) (G.af 353 "law_notejar_k60_room" 623 352) (G.af 401 "law_notejar_k60_room" 623 400) (G.af 346 "law_notejar_k60_room" 623 345) (G.af 427 "law_notejar_k60_room" 623 426) (G.af 166 "notejar.names" 344 165) (G.af 173 "notejar.names" 344 172) (G.af 180 "notejar.names" 344 179) (G.af 187 "notejar.names" 344 186) (G.af 194 "notejar.names" 344 193) (G.af 284 "notejar.room" 559 283) (G.af 315 "notejar.room" 559 314) (G.af 308 "notejar.room" 559 307) (G.af 320 "notejar.room" 559 319) (G.af 301 "notejar.room" 559 300) (G.af 248 "notejar.notes" 492 247) (G.af 263 "notejar.jars" 530 262) (G.af 258 "notejar.jars" 530 257) (G.af 123 "notejar.kinds" 319 122) (G.af 208 "notejar.asks" 444 207) (G.af 215 "notejar.asks" 444 214) (G.af 116 "notejar.kinds" 319 115) (G.af 137 "notejar.names" 344 136) (G.af 142 "notejar.names" 344 141) (G.af 222 "notejar.giving" 462 221) (G.af 201 "notejar.paths" 431 200) (G.af 234 "notejar.giving" 462 233) (G.af 130 "notejar.kinds" 319 129) (G.af 227 "notejar.giving" 462 226) (G.af 241 "notejar.notes" 492 240) (G.af 253 "notejar.jars" 530 252) (G.af 270 "notejar.jars" 530 269) (G.af 277 "notejar.room" 559 276) (G.af 149 "notejar.names" 344 148) (G.af 154 "notejar.names" 344 153) (G.af 161 "notejar.names" 344 160) (G.af 296 "notejar.room" 559 295) (G.af 289 "notejar.room" 559 288) (G.af 434 "law_notejar_k60_room" 623 433) (G.af 439 "law_notejar_k60_room" 623 438) (by kernel_rfl) (by kernel_rfl)
#print axioms PySem.Challenge.cw_notejar_k60_room_holds
