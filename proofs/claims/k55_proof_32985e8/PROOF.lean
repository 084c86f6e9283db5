import PyProof.Rows.All
import Wide.All
import OpenK.AllK
import Wide.FinOn
import Lean
import PyProof.EqAt
import PyProof.EqKinds
import PyProof.TupleCall
import PySem.SetTable
import PyProof.SetKind
import PyProof.TupleKey
import PyProof.DictKinds
import PyProof.Rows.SetFrom
import PyProof.ZipIter
import PyProof.Conv_int
import PyProof.FactsAll.str
import PyProof.EnumIter
import PyProof.Rows.SortStr
import PyProof.Rows.SortWalk
import PyProof.Rows.MinMaxN
import PyProof.ConsumeWalk
import PyProof.CollectWalk
import PyProof.WalksMore
import PyProof.CollectStr
import PyProof.Rows.SortShellK
import PyProof.Rows.SortRunsK
import PyProof.SeqI3
import KE.KSortKey
import PyProof.Rows.CallKwBuiltin
import PyProof.SumAny
import KE.KDictSum
import PySem.Challenge.RW_notejar_k55_comparing
open PySem.Str renaming ofString → a_, empty → O5
open PySem renaming wpAny_bind → b_, Shared → c_, wpAny_pure → d_, starEach → e_, wpAny → m_, model → pi, Around → u_, mainGlobals → w_, World → x_, foldedSetIterable → Gs, compareOp → Gx, backTo → GA, wpAny_mono → GC, assignEach → GD, behindInMarks → GJ, cellsFrom → GO, wpAny_holding → GV, swapsWith → GW, wpAny_callSpecial?_slot → G3, wpAny_newObj_type → G5, wpAny_call_entry → G9, FuncData → Ha, keywordEach → Hc, bootBuiltins → Hk, wpAny_setState_of → Hr, wpAny_field → Hs, binaryOp → HQ, wpAny_Call_Name_kw → HS, attributeBase → HV, wpAny_typeNameOfWhole_valiter → HZ, wpAny_truthy_bool → H_, Keyword → Ia, backToKw → Ii, wpAny_typeNameOf_valiter → ID, wpAny_attempt → IE, sysModules → IF, setSearchFrom → IG, mem_of_lookup → IK, wpAny_getItem_str_slice → IN, NameKind → IQ, sizeLine_eq → IV, wpAny_setField_rec → IY, wpAny_isOneOf_valiter → Jl, call_meets → Jv, wpAny_forIn_list → JD, codeAny_mono → JE, wpAny_passesOwn → JW, wpAny_rule → J0, wpAny_pyIter_tuple → J_, closureFor → Ka, sliceBounds → Kh, PassesOwn → Kk, wpAny_typeOf → Kp, codeAny → Kq, assign → Kr, wpAny_setFlight_noneW → KO, typeIs_str → KS, rawInt → KU, Builtin → K3, codeAny_call_builtin → K4, wpAny_loadPart' → La, pyNext → Lb, post_val_or_str → Lc, letOwnedTupleGo → Ld, codeAny_builtin → Le, wpAny_setField → Lp, wpAny_seqItems → Lq, wpAny_newFunctionEnv_cells → Lr, wpAny_fieldsOf → Ls, wpAny_call → Lu, firstArgMember → Lv, GenState → LA, wpAny_pyIter_list → LL, wpAny_loadPart_at → LN, wpAny_dictEntries → LO, unsupported → LP, BindsTo → LS, wpAny_newList → LZ, wpAny_comprehension_free → L4, strKind → L5, tupleKind → Ma, noFill_tuple_add → Mb, Model → Md, setAddHashed → Mx, richCompare_meets_room → My, notedBy → Mz, getItem → MB, IsPart → ME, wpAny_execs_nil → MP, wpAny_dictEpoch → MQ, wpAny_eqIsQuiet_tuple → MT, codeAny_call_function → MU, wpAny_newTuple → MY, newFunctionEnv → MZ, lookup_relabel_local → M3, Params → M7, IsEnum → M9, treeTable → Nj, callerA → Nk, Fin → Nm, seq_tuple_add → Nx, typeIs_int → NE, builtinsNs → NF, Result → NK, valueAt → NV, list_append → NW, concat_meets → NX, compEnvC → NY, typeOf → Oe, noteFrame → Of, subscripted → Ow, strIterType → Ox, holding → OG, setField → OJ, isSame → OK, field → OL, call → OM, boot_len → ON, bindL → OO, bindC → OP, atKey → OQ, Paired → OU, ItemsAre → OV
open PySem.W renaming Frag → ck, kia_one → Hi, keepIn → Hv, hideAll_none → HB, emptyDict → HI, nsIn → HW, instObj → Iu, kitOne → IP, of_hideAll → IZ, fnOf → I_, mg_of → JP, findIn → Ks, cellsFrom_some → Kt, hideAll_get → Lk, codeIn → Lw, methodObj → LQ, OpenLaw → MR, lookIn → M4, excIn → Ny, codeRec_of → NG, callWith_K → NH, specialIn → NZ, openEnds → N0, looks_findIn → N1, kitx_list → N2, kitx_dict → N3, plainGet → Og, hideAll → OB, WalkO → O1, kHook → O4, isFn → O8
open PySem.Heap renaming get?_push_of_some → f_, lt_size → o_, get?_push_size → r_, size_push → Hd, SameBut → Hl, get?_update_ne → Ho, get?_push_ne → Ib, size_update → IR, get?_update_self → KP, get?_none_of_le → K6, get?_update_other → MF, ExtBut → Oy
open Bool renaming and_eq_true → g_, false_eq_true → i_, false_ne_true → on, and_eq_true_iff → GT, eq_iff_iff → G2, not_true → IJ, not_eq_true' → Ju, not_false → JC, and_false → LJ, true → Mv, or_false → ND, false → NS
open List renaming range → h_, mem_cons_self → j_, mem_cons_of_mem → k_, getElem?_eq_getElem → n_, mem_cons → p_, replicate → rl, mem_append_right → s_, map_cons → t_, getElem?_set_ne → uk, getElem?_eq_some_iff → xy, size_toArray → y_, getElem?_set_self → B_, set_cons_zero → C_, set_cons_succ → D_, getElem?_map → E_, mem_append → F_, mem_map → Go, mem_append_left → Gp, mem_singleton → Gr, length_cons → Gu, all_eq_true → Gv, length_map → Gw, mem_range → Gy, map_append → GB, getElem?_eq_none → GE, pairwise_cons → GF, lookup_cons → GP, length_set → GQ, mem_filter → G1, mem_of_getElem? → G6, map_map → G7, length_append → G8, not_mem_nil → G_, getElem?_append_right → Hh, replicate_succ → Hq, all_cons → Hw, nodup_cons → Hx, filter_cons_of_neg → HC, any_cons → HH, map_congr_left → HL, getElem?_range → HM, getElem?_append_left → HP, mem_filterMap → HU, filter_cons_of_pos → Ic, find?_cons → Ig, length_replicate → Ip, getD → Iw, foldl_cons → Ix, flatten_cons → IC, toList_toArray → IL, filterMap_cons → IM, length_eq_zero_iff → IT, getElem?_replicate → IU, lookup_append → Je, append_nil → Jh, length_filter_le → Jq, pairwise_map → Jr, nodup_append → Js, pairwise_append → JB, map_nil → JH, drop_length → JK, pairwise_iff_getElem → JM, getElem_of_mem → JO, find?_eq_none → Kf, getElem?_cons_succ → Kn, pairwise_lt_range → KH, length_range → KI, ext_getElem? → KL, length_take → K0, countP_cons → K1, of_mem_zip → Lg, nil_append → Lh, filterMap_map → LH, mem_of_find?_eq_some → LK, filter_congr → LW, append_assoc → LX, sublist_append_left → L9, pairwise_singleton → Mr, length_drop → Ms, getElem_mem → Mt, any_eq_true → Mu, range_succ_eq_map → MK, foldl → ML, filter_eq_nil_iff → MM, find?_some → MS, length_singleton → MX, not_lt → Nd, mem_of_mem_drop → Nf, lt_irrefl → Ng, forIn_nil → Nh, lt_trans → NC, zip_cons_cons → NQ, take_sublist → N9, mapM_toArray → N_, le_antisymm → Os, getElem_zip → Ot, filter_cons → Ou, length → OA, range_succ → OD, forIn_cons → OE
open Nat renaming le_refl → l_, ne_of_lt → z_, lt_of_lt_of_le → A_, le_trans → GG, zero_le → GI, lt_irrefl → Hj, ne_of_beq_eq_false → Hm, lt_succ_of_lt → HJ, le_of_lt_succ → HK, eq_of_beq_eq_true → HR, not_lt_zero → Ie, le_of_ble_eq_true → Io, le_succ → IW, zero_add → Jc, succ_pos → Jd, le_of_eq → JG, beq → JZ, mod_lt → Ke, le_of_lt → KG, ne_of_gt → Ln, lt_trans → Lo, min_le_right → Mp, add_sub_cancel_left → Mq, lt_of_le_of_lt → NP, succ_add → N7, mul_comm → N8, lt_succ_self → Op, le_of_not_lt → Oq, ble → OI
open PySem.Value renaming ref → q_, none → GH, type → GS, bool → Hy, isStrOf → JQ, str → Ki, builtin → K2, notImplemented → M5, int → Nl, isStrOf_shape → Nr
open PySem.SetTable renaming insertAt → v_, leap → Ji, runEnd → KW, turns → K5, grown → Ly, insertAt_perm → MD, sameMemory → Nt, tooFull → Oi, gaveWay → Oj, advance → Ol, probe → OR, layClean → OS, slot → O2, fill → O3
open Option renaming map_eq_some_iff → Gq, none → He, map_some → HN, some → IB, isSome_iff_exists → II, all_some → JY, isSome_some → NO, getD_none → Oo
open False renaming elim → Gz
open PySem.Obj renaming mapSeq → GK, data_mapFields → Kb, putSet → Lz, isFreed_of_fields → MV, mk → M8, mapFields → NA, cls_mapFields → N5
open Option.some renaming inj → GL, injEq → IA
open PyProof.Rows renaming seqObj → GM, slot_tuple_getitem → GY, callWith_type1 → HE, boot_isinstance → Jg, listUpdate_at → Jk, get?_update_seq → JX, envOfC → Kc, listItems_at → KB, SortSt → KC, size_push' → KY, callWith_builtin1 → KZ, arrOf → K_, AllBare → Lm, seqEpoch_at → LU, pairsOf → LV, pendingOf → Ml, SortKind → Mm, subscriptTail_builtinR → MI, pairsOf_size → MJ, failedOf → Nc, oneLt'_eq → No, IntsAre → Np, lt_str → Nw, Keyed → NB, typeIs_bool' → N6, tuples' → OH, IsTup → OX
open PySem.PyData renaming eqv → GN, canLay0 → G4, canLayAll0 → Ht, eqvAll → HX, depthAll → Iv, depth → Ku
open Array renaming getElem?_eq_some_iff → GR, mem_toList_iff → GU, getD_eq_getD_getElem? → GX, length_toList → G0, getElem?_eq_getElem → Hn, getElem?_toList → Hu, size_map → Ik, getElem?_map → Il, replicate → Iz, forIn_toList → Kg, mem_of_getElem? → KR, getElem?_setIfInBounds → Lj, toList_push → LY, size_setIfInBounds → L_, toList_filterMap → MN, foldl_toList → NT, append_assoc → NU, size_append → Oa, getElem_mem → Ob, mem_filter → Ov
open PySem.F renaming slot_dict_valueiterator_next → GZ, slot_tuple_iterator_next → Ij, called_set → Ja, slot_enumerate_next → Jm, excBase_ValueError → Jz, args_dict_valueiterator_next_1 → JA, entry_dict_valueiterator_next → JF, args_tuple_add_2 → JR, plainAttrs_list → Kl, entry_tuple_add → Km, slot_str_split → Ko, slot_tuple_add → Kw, slot_dict_get → KQ, slot_list_append → K7, slot_dict_values_iter → K8, args_tuple_iterator_next_1 → Lf, entry_tuple_iterator_next → Ll, args_str_split_2 → LC, entry_str_split → LR, slot_dict_values → L7, slot_list_index → Me, slot_list_count → Mf, plainAttrs_dict → Mg, args_enumerate_next_1 → Mh, args_dict_get_3 → Mi, entry_enumerate_next → MG, entry_dict_get → MH, args_list_append_2 → M_, entry_list_append → Nu
open PySem.Builtin.Str renaming occurrences → Hb, strKind → Nv
open Int renaming emod_lt_of_pos → Hz, emod_nonneg → Iy, toNat_natCast → KM
open PySem.SetTable.layClean renaming free → HF
open PySem.NameKind renaming free → HG, cell → HY
open PySem.Heap.SameBut renaming update → Ih
open Ne renaming symm → Im
open PySem.Builtin.SmallTypes renaming nextOf → Iq, ownedTupleHandOut → JN, ownedTupleIsFree → JS
open PySem.Builtin.Slice renaming slicePlaces → Ir, sliceAdjust → JL, sliceApplied → LG
open PySem.Builtin.Tuple renaming tupleExact → IH, tupleCompareSizes → KN, tupleItemsOf → LF
open PyProof.Rows.F renaming plain_set_update_loop → IS, entry_set_update_loop → Mn
open True renaming intro → IX
open PySem.Calls renaming spliced_cons → Jb, spliced_nil → Kx, callWith_builtin → Ky, evalArgs_plain → K9, Name_function_global → LD
open PySem.Builtin.Dict_items renaming ownsTuple → Jf, newIterator → On, dictOf → O0
open List.Pairwise renaming nil → Jt
open PySem.SetTable.probe renaming go → Jw
open PySem.Builtin.List renaming listTooLong → JU, listItems → Kz
open Function renaming comp → JV
open PySem.Txt renaming split → Kj, startswith → Lx, slice_le → MC, endswith → N4, slice → Oh
open ForInStep renaming yield → Li
open PySem.Paired renaming length → L6
open PySem.AutoSeq1 renaming sub_tuple_tuple → L8
open PySem.SetTable.below renaming go → Mc
open PySem.Builtin.ObjectAttr renaming find → Mj, dataDescriptor? → NN, bindTo → OZ
open Sum renaming inr → Mw, inl → Ni
open StateT renaming run_pure → MO
open PySem.Builtin.Dict renaming showsAll → MW
open PySem.SeqAt.EqAt renaming bool_bool → M6, str_int → NI, int_str → NJ
open PySem.Around renaming under_plainId → Na, frames_deeper → Nb
open PySem.Data renaming dict → Nn, fields → Oz
open LawfulBEq renaming eq_of_beq → Nq
open PySem.Shared renaming TypeIs → Nz
open PySem.Code renaming quiet_builtin → NL
open PySem.ClassData renaming mk → NM
open List.Nodup renaming sublist → NR
open Std.Legacy renaming Range → Oc
open PySem.IsL renaming update → Om
open PySem.Builtin.Frozenset renaming updateFrom → OC
open List.cons renaming injEq → OF
open PySem.SetFound renaming there → OT
open PyProof.Rows.SortSt renaming mk' → OW
open List.Perm renaming swap → OY
open PyProof.Rows.IsTup renaming new → O6
open ForIn renaming forIn → O7
set_option maxHeartbeats 4000000
set_option Elab.async false
namespace G
open PySem PySem.W PyProof.Rows
noncomputable def hT (i:Nat):Stmt:=PySem.Challenge.pw_notejar_k55_comparing.main.body.getD i (.Pass ⟨0,0,0,0⟩)
noncomputable def hA (s:Stmt):Arguments:=match s with
 | .FunctionDef _ a _ _ _ _ _ _ _ _=>a
 | _=>{ posonlyargs:=[],args:=[],vararg:=none,kwonlyargs:=[],kw_defaults:=[],kwarg:=none,defaults:=[] }
noncomputable def hB (s:Stmt):List Stmt:=match s with
 | .FunctionDef _ _ b _ _ _ _ _ _ _=>b
 | _=>[]
noncomputable def hS (s:Stmt):Scope:=match s with
 | .FunctionDef _ _ _ _ _ _ sc _ _ _=>sc
 | _=>{ kind:=.function,names:=[],isGenerator:=false,isCoroutine:=false }
noncomputable abbrev kS (s:String) (t:Nat):Value:=.str (a_ s) t
noncomputable abbrev kR (a:Nat):Value:=.ref a
noncomputable abbrev kI (i:Int) (t:Nat):Value:=.int i t
noncomputable abbrev kE (P:M7) (s:String) (t:Nat) (v:Value):DictEntry:=⟨PySem.PyData.keyHash P (a_ s),.str (a_ s) t,v⟩
noncomputable def kF (x:String) (i:Nat) (m:String) (t c:Nat):Obj:=M8 (GS "function") He (Data.func (fnOf (a_ x) (a_ x) (hA (hT i)) (hB (hT i)) (hS (hT i)) .none GH GH (kS m t) He (kR c) GH)) #[]
noncomputable def kC (x:String) (a b c:Nat) (d e f:Int) (g:Nat) (h:Int) (i j:Nat) (k l:Int) (m:Nat):Obj:=M8 (GS "code") He (Oz #[kS x a,kS x b,kS "/claim/cut.py" c,kI d 0,kI e 0,kI 0 0,kI 0 0,kI f 0,kR g,Hy Mv,kI h 0,kR i,GH,GH,GH,kR j,kI k 0,kI l 0,kS "/claim/cut.py" m]) #[]
noncomputable def kD (x:String) (a b c:Nat) (d e f:Int) (g:Nat) (h:Int) (i u v j:Nat) (k l:Int) (m:Nat):Obj:=M8 (GS "code") He (Oz #[kS x a,kS x b,kS "/claim/cut.py" c,kI d 0,kI e 0,kI 0 0,kI 0 0,kI f 0,kR g,Hy Mv,kI h 0,kR i,GH,kR u,kR v,kR j,kI k 0,kI l 0,kS "/claim/cut.py" m]) #[]
noncomputable def KKa (P:M7):Frag:=[(2,M8 GH He (Nn #[]) #[]),
 (3,M8 (GS "dict") He (Nn #[kE P "__name__" 165 (kS "law_notejar_k55_comparing" 447),kE P "__doc__" 166 GH,kE P "__package__" 167 GH,kE P "__loader__" 168 (K2 "__main__.__loader__#opaque"),kE P "__spec__" 169 GH,kE P "__annotations__" 170 (kR 6),kE P "__builtins__" 171 (kR 4),kE P "__file__" 173 (kS "/claim/cut.py" 172),kE P "__cached__" 174 GH,kE P "JarError" 206 (kR 24),kE P "NoJar" 222 (kR 37),kE P "is_text_of" 230 (kR 44),kE P "is_whole_number" 239 (kR 51),kE P "is_tuple_of" 247 (kR 58),kE P "FIGURES" 251 (kS "0123456789" 250),kE P "LABEL_SIGNS" 253 (kS "abcdefghijklmnopqrstuvwxyz0123456789-" 252),kE P "LONGEST_LABEL" 255 (kI 8 254),kE P "MOST_LABELS" 257 (kI 5 256),kE P "is_label" 264 (kR 65),kE P "is_name" 270 (kR 70),kE P "PATH_SIGNS" 274 (kS "abcdefghijklmnopqrstuvwxyz0123456789-_./" 273),kE P "LONGEST_PATH" 276 (kI 20 275),kE P "is_path" 283 (kR 77),kE P "LAST_MOMENT" 287 (kI 9999 286),kE P "is_moment" 294 (kR 84),kE P "is_moment_or_none" 301 (kR 91),kE P "NOTE_NAME_SIGNS" 305 (kS "abcdefghijklmnopqrstuvwxyzABCDEFGHIJKLMNOPQRSTUVWXYZ0123456789-_" 304),kE P "LONGEST_NOTE_NAME" 307 (kI 10 306),kE P "NO_WORTH_SIGNS" 309 (kS ";,=" 308),kE P "LONGEST_WORTH" 311 (kI 12 310),kE P "is_note_name" 318 (kR 98),kE P "is_worth" 324 (kR 103),kE P "is_reach" 331 (kR 110),kE P "NOTE_NAME" 335 (kI 0 334),kE P "NOTE_WORTH" 337 (kI 1 336),kE P "NOTE_HOUSE" 339 (kI 2 338),kE P "NOTE_EXACT" 341 (kI 3 340),kE P "NOTE_PATH" 343 (kI 4 342),kE P "NOTE_ENDS" 345 (kI 5 344),kE P "NOTE_SAFE" 347 (kI 6 346),kE P "NOTE_REACH" 349 (kI 7 348),kE P "NOTE_MADE" 351 (kI 8 350),kE P "NOTE_USED" 353 (kI 9 352),kE P "NOTE_PARTS" 355 (kI 10 354),kE P "is_note" 362 (kR 117),kE P "key" 369 (kR 124),kE P "MOST_NOTES" 373 (kI 20 372),kE P "is_jar" 379 (kR 129),kE P "is_by_made" 385 (kR 134),kE P "has_no_key_twice" 391 (kR 139),kE P "need_jar" 398 (kR 146),kE P "need_no_more_than_a_jar_has" 405 (kR 153),kE P "changed" 413 (kR 158),kE P "merged" 424 (kR 165),kE P "place_of" 431 (kR 172),kE P "later_of" 439 (kR 179),kE P "when_last" 446 (kR 186),kE P "_law_cell" 456 (kR 193),kE P "_law_drawn" 466 (kR 200),kE P "_law_name" 475 (kR 207),kE P "_law_path" 484 (kR 214),kE P "_law_jar" 490 (kR 219),kE P "_law_key" 497 (kR 226),kE P "_law_like" 503 (kR 231),kE P "_law_refused" 511 (kR 238),kE P "_law_told" 521 (kR 245),kE P "_law_merged" 527 (kR 250),kE P "law" 533 (kR 255)] 68) #[]),
 (23,M8 (GS "dict") He (Nn #[kE P "__module__" 196 (kS "notejar.errors" 187),kE P "__firstlineno__" 200 (kI 2 199),kE P "__static_attributes__" 201 (kR 22),kE P "__weakref__" 203 (kR 25),kE P "__doc__" 204 GH] 3) #[]),
 (24,M8 (GS "type") He (Data.cls (NM (a_ "JarError") [GS "ValueError"] [kR 24,GS "ValueError",GS "Exception",GS "BaseException",GS "object"] 23 (a_ "JarError") Mv [] [kR 37] NS He NS)) #[IB (kR 15),He,IB (kS "JarError" 189),IB (kS "JarError" 197),IB (K2 "ValueError.__new__"),IB (Hy Mv)]),
 (36,M8 (GS "dict") He (Nn #[kE P "__module__" 214 (kS "notejar.errors" 187),kE P "__firstlineno__" 218 (kI 4 217),kE P "__static_attributes__" 219 (kR 35),kE P "__doc__" 220 GH] 2) #[]),
 (37,M8 (GS "type") He (Data.cls (NM (a_ "NoJar") [kR 24] [kR 37,kR 24,GS "ValueError",GS "Exception",GS "BaseException",GS "object"] 36 (a_ "NoJar") Mv [] [] NS He NS)) #[IB (kR 28),He,IB (kS "NoJar" 207),IB (kS "NoJar" 215),IB (K2 "ValueError.__new__"),IB (Hy Mv)]),
 (43,kC "is_text_of" 225 226 227 7 4 3 40 181 41 42 228 7 229),
 (44,kF "is_text_of" 4 "notejar.kinds" 223 43),
 (50,kD "is_whole_number" 231 232 233 13 3 3 45 181 46 47 48 49 237 13 238),
 (51,kF "is_whole_number" 5 "notejar.kinds" 223 50),
 (57,kD "is_tuple_of" 240 241 242 17 2 3 52 181 53 54 55 56 245 17 246),
 (58,kF "is_tuple_of" 6 "notejar.kinds" 223 57),
 (64,kD "is_label" 258 259 260 24 1 3 59 181 60 61 62 63 262 24 263),
 (65,kF "is_label" 12 "notejar.names" 248 64),
 (69,kC "is_name" 265 266 267 28 1 3 66 181 67 68 268 28 269),
 (70,kF "is_name" 13 "notejar.names" 248 69),
 (76,kD "is_path" 277 278 279 38 1 3 71 181 72 73 74 75 281 38 282),
 (77,kF "is_path" 17 "notejar.paths" 271 76),
 (83,kD "is_moment" 288 289 290 42 1 3 78 181 79 80 81 82 292 42 293),
 (84,kF "is_moment" 20 "notejar.asks" 284 83),
 (90,kD "is_moment_or_none" 295 296 297 44 1 3 85 181 86 87 88 89 299 44 300),
 (91,kF "is_moment_or_none" 21 "notejar.asks" 284 90),
 (97,kD "is_note_name" 312 313 314 51 1 3 92 181 93 94 95 96 316 51 317),
 (98,kF "is_note_name" 27 "notejar.giving" 302 97),
 (102,kC "is_worth" 319 320 321 53 1 3 99 181 100 101 322 53 323),
 (103,kF "is_worth" 28 "notejar.giving" 302 102),
 (109,kD "is_reach" 325 326 327 57 1 3 104 181 105 106 107 108 329 57 330),
 (110,kF "is_reach" 29 "notejar.giving" 302 109),
 (116,kD "is_note" 356 357 358 71 1 3 111 181 112 113 114 115 360 71 361),
 (117,kF "is_note" 42 "notejar.notes" 332 116),
 (123,kD "key" 363 364 365 77 1 3 118 181 119 120 121 122 367 77 368),
 (124,kF "key" 43 "notejar.notes" 332 123),
 (128,kC "is_jar" 374 375 376 81 1 3 125 181 126 127 377 81 378),
 (129,kF "is_jar" 46 "notejar.jars" 370 128),
 (133,kC "is_by_made" 380 381 382 87 1 3 130 181 131 132 383 87 384),
 (134,kF "is_by_made" 47 "notejar.jars" 370 133),
 (138,kC "has_no_key_twice" 386 387 388 89 1 3 135 181 136 137 389 89 390)]
noncomputable def KKb (P:M7):Frag:=[(139,kF "has_no_key_twice" 48 "notejar.jars" 370 138),
 (145,kD "need_jar" 392 393 394 92 1 3 140 181 141 142 143 144 396 92 397),
 (146,kF "need_jar" 49 "notejar.jars" 370 145),
 (152,kD "need_no_more_than_a_jar_has" 399 400 401 95 1 3 147 181 148 149 150 151 403 95 404),
 (153,kF "need_no_more_than_a_jar_has" 50 "notejar.jars" 370 152),
 (157,kC "changed" 408 409 410 99 2 3 154 181 155 156 411 99 412),
 (158,kF "changed" 52 "notejar.comparing" 406 157),
 (164,kD "merged" 414 415 416 108 2 3 159 181 160 161 162 163 422 108 423),
 (165,kF "merged" 53 "notejar.comparing" 406 164),
 (171,kD "place_of" 425 426 427 119 1 3 166 181 167 168 169 170 429 119 430),
 (172,kF "place_of" 54 "notejar.comparing" 406 171),
 (178,kD "later_of" 432 433 434 121 2 3 173 181 174 175 176 177 437 121 438),
 (179,kF "later_of" 55 "notejar.comparing" 406 178),
 (185,kD "when_last" 440 441 442 125 1 3 180 181 181 182 183 184 444 125 445),
 (186,kF "when_last" 56 "notejar.comparing" 406 185),
 (192,kD "_law_cell" 449 450 451 128 2 3 187 181 188 189 190 191 454 128 455),
 (193,kF "_law_cell" 58 "law_notejar_k55_comparing" 447 192),
 (199,kD "_law_drawn" 457 458 459 132 3 3 194 181 195 196 197 198 464 132 465),
 (200,kF "_law_drawn" 59 "law_notejar_k55_comparing" 447 199),
 (206,kD "_law_name" 467 468 469 136 2 3 201 181 202 203 204 205 473 136 474),
 (207,kF "_law_name" 60 "law_notejar_k55_comparing" 447 206),
 (213,kD "_law_path" 476 477 478 140 2 3 208 181 209 210 211 212 482 140 483),
 (214,kF "_law_path" 61 "law_notejar_k55_comparing" 447 213),
 (218,kC "_law_jar" 485 486 487 143 3 3 215 181 216 217 488 143 489),
 (219,kF "_law_jar" 62 "law_notejar_k55_comparing" 447 218),
 (225,kD "_law_key" 491 492 493 161 1 3 220 181 221 222 223 224 495 161 496),
 (226,kF "_law_key" 63 "law_notejar_k55_comparing" 447 225),
 (230,kC "_law_like" 498 499 500 163 3 3 227 181 228 229 501 163 502),
 (231,kF "_law_like" 64 "law_notejar_k55_comparing" 447 230),
 (237,kD "_law_refused" 504 505 506 176 1 3 232 181 233 234 235 236 509 176 510),
 (238,kF "_law_refused" 65 "law_notejar_k55_comparing" 447 237),
 (244,kD "_law_told" 512 513 514 181 3 3 239 181 240 241 242 243 519 181 520),
 (245,kF "_law_told" 66 "law_notejar_k55_comparing" 447 244),
 (249,kC "_law_merged" 522 523 524 186 2 3 246 181 247 248 525 186 526),
 (250,kF "_law_merged" 67 "law_notejar_k55_comparing" 447 249),
 (254,kC "law" 528 529 530 198 1 3 251 181 252 253 531 198 532),
 (255,kF "law" 68 "law_notejar_k55_comparing" 447 254)]
noncomputable def KK (P:M7):Frag:=KKa P ++ KKb P
noncomputable def KAa:List Addr:=[2,3,23,24,36,37,43,44,50,51,57,58,64,65,69,70,76,77,83,84,90,91,97,98,102,103,109,110,116,117,123,124,128,129,133,134,138]
noncomputable def KAb:List Addr:=[139,145,146,152,153,157,158,164,165,171,172,178,179,185,186,192,193,199,200,206,207,213,214,218,219,225,226,230,231,237,238,244,245,249,250,254,255]
noncomputable def KA:List Addr:=KAa ++ KAb
theorem KA_ok (P:M7):KA=(KK P).map (·.1):=by kernel_rfl
noncomputable def VQ:Program:=view PySem.Challenge.pw_notejar_k55_comparing [68]
theorem hbr:PySem.Challenge.rw_notejar_k55_comparing.row.prog.bare:=⟨rfl,rfl,rfl,rfl,rfl,by decide +kernel⟩
set_option maxRecDepth 100000 in
theorem hld (h:PySem.Challenge.rw_notejar_k55_comparing.row.wellSaid=true→PySem.Challenge.rw_notejar_k55_comparing.row.Holds):PySem.Challenge.rw_notejar_k55_comparing.Holds:=by
 w_on; o_law
 exact h (by assumption)
noncomputable def VL:List Str:=[a_ "JarError",a_ "NoJar",a_ "is_text_of",a_ "is_whole_number",a_ "is_tuple_of",a_ "FIGURES",a_ "LABEL_SIGNS",a_ "LONGEST_LABEL",a_ "MOST_LABELS",a_ "is_label",a_ "is_name",a_ "PATH_SIGNS",a_ "LONGEST_PATH",a_ "is_path",a_ "LAST_MOMENT",a_ "is_moment",a_ "is_moment_or_none",a_ "NOTE_NAME_SIGNS",a_ "LONGEST_NOTE_NAME",a_ "NO_WORTH_SIGNS",a_ "LONGEST_WORTH",a_ "is_note_name",a_ "is_worth",a_ "is_reach",a_ "NOTE_NAME",a_ "NOTE_WORTH",a_ "NOTE_HOUSE",a_ "NOTE_EXACT",a_ "NOTE_PATH",a_ "NOTE_ENDS",a_ "NOTE_SAFE",a_ "NOTE_REACH",a_ "NOTE_MADE",a_ "NOTE_USED",a_ "NOTE_PARTS",a_ "is_note",a_ "key",a_ "MOST_NOTES",a_ "is_jar",a_ "is_by_made",a_ "has_no_key_twice",a_ "need_jar",a_ "need_no_more_than_a_jar_has",a_ "changed",a_ "merged",a_ "place_of",a_ "later_of",a_ "when_last",a_ "_law_cell",a_ "_law_drawn",a_ "_law_name",a_ "_law_path",a_ "_law_jar",a_ "_law_key",a_ "_law_like",a_ "_law_refused",a_ "_law_told",a_ "_law_merged"]
theorem Fy {α β γ:Type} {o:Option α} {f:α→β} {g:α→γ} {a:β} {b:γ} (h1:o.map f=some a) (h2:o.map g=some b):o.map (fun s=>(f s,g s))=some (a,b):=by
 cases o with
 | none=>cases h1
 | some x=>cases h1; cases h2; rfl
set_option maxRecDepth 100000 in
theorem CI (w:x_):(N0 Nj PySem.Challenge.pw_notejar_k55_comparing w 3464).map (openSeen VQ VL (importedModules PySem.Challenge.pw_notejar_k55_comparing.main.body) (fun s=>recOk [] s) true)=some (openGood VQ VL):=by kernel_rfl
set_option maxRecDepth 100000 in
theorem yU (w:x_):(N0 Nj PySem.Challenge.pw_notejar_k55_comparing w 3464).map (fun s=>KAa.map s.heap.get?)=some ((KKa w.params).map fun p=>some p.2):=by kernel_rfl
set_option maxRecDepth 100000 in
theorem yV (w:x_):(N0 Nj PySem.Challenge.pw_notejar_k55_comparing w 3464).map (fun s=>KAb.map s.heap.get?)=some ((KKb w.params).map fun p=>some p.2):=by kernel_rfl
theorem sL {α β γ:Type} {o:Option α} {f:α→β→γ} {A B:List β} {X Y:List γ} (h1:o.map (fun s=>A.map (f s))=some X) (h2:o.map (fun s=>B.map (f s))=some Y):o.map (fun s=>(A ++ B).map (f s))=some (X ++ Y):=by
 cases o with
 | none=>cases h1
 | some x=>cases h1; cases h2; simp
theorem CK (w:x_):(N0 Nj PySem.Challenge.pw_notejar_k55_comparing w 3464).map (fun s=>KA.map s.heap.get?)=some ((KK w.params).map fun p=>some p.2):=by
 show (N0 Nj PySem.Challenge.pw_notejar_k55_comparing w 3464).map (fun s=>(KAa ++ KAb).map s.heap.get?)=some ((KKa w.params ++ KKb w.params).map fun p=>some p.2)
 rw [GB]
 exact sL (f:=fun s:c_=>s.heap.get?) (yU w) (yV w)
theorem left:LeftO PySem.Challenge.pw_notejar_k55_comparing VQ VL (fun s=>recOk [] s) (Hook.obs (O4 KK KA KA_ok)) (Hook.val (O4 KK KA KA_ok)) 3464:=fun w=>Fy (CI w) (CK w)
end G
set_option Elab.async false
set_option linter.all false
set_option maxRecDepth 100000
namespace L2
open PySem PySem.Spec PyProof.Rows
abbrev Key:=Sum Int Str
def om:Key→Value→Bool
 | .inl k,v=>Value.isInt k v
 | .inr x,v=>JQ x v
def Fz (w:x_):Key→Int
 | .inl k=>hashInt k
 | .inr x=>hashStr w x
theorem aS:∀ {k:Key} {v:Value},om k v=true→(∃ i t,k=Ni i∧v=Nl i t)∨(∃ x t,k=Mw x∧v=Ki x t)
 | .inl i,v,h=>by
  obtain ⟨t,e⟩:=Value.isInt_shape (k:=i) (v:=v) h
  exact .inl ⟨i,t,rfl,e⟩
 | .inr x,v,h=>by
  obtain ⟨t,e⟩:=Nr (x:=x) (v:=v) h
  exact .inr ⟨x,t,rfl,e⟩
theorem pe (i:Int) (t:Tok):om (.inl i) (.int i t)=true:=by simp [om,Value.isInt]
theorem pf (x:Str) (t:Tok):om (.inr x) (.str x t)=true:=by simp [om,JQ]
theorem yW (a b:Int):decide ((Ni a:Key)=Ni b)=(a == b):=by
 by_cases e:a=b
 · subst e; simp
 · have h:¬ (Ni a:Key)=Ni b:=fun q=>e (Sum.inl.inj q)
   rw [decide_eq_false h]
   exact (beq_eq_false_iff_ne.mpr e).symm
theorem yX (a b:Str):decide ((Mw a:Key)=Mw b)=decide (a=b):=by
 by_cases e:a=b
 · subst e; simp
 · have h:¬ (Mw a:Key)=Mw b:=fun q=>e (Sum.inr.inj q)
   rw [decide_eq_false h,decide_eq_false e]
theorem yY (a:Int) (b:Str):decide ((Ni a:Key)=Mw b)=false:=decide_eq_false (fun q=>nomatch q)
theorem yZ (a:Str) (b:Int):decide ((Mw a:Key)=Ni b)=false:=decide_eq_false (fun q=>nomatch q)
def bu (prog:Program) (w:x_):PySem.KeyKind prog w Key where
 is:=om
 hash:=Fz w
 inj:=fun v a b ha hb=>by
  rcases aS ha with ⟨i,t,rfl,rfl⟩ | ⟨x,t,rfl,rfl⟩
  · rcases aS hb with ⟨j,u,rfl,e⟩ | ⟨y,u,rfl,e⟩
    · injection e with e1 _; rw [e1]
    · exact nomatch e
  · rcases aS hb with ⟨j,u,rfl,e⟩ | ⟨y,u,rfl,e⟩
    · exact nomatch e
    · injection e with e1 _; rw [e1]
 byValue:=fun k v h=>by
  rcases aS h with ⟨i,t,rfl,rfl⟩ | ⟨x,t,rfl,rfl⟩ <;> rfl
 pyHash:=fun hv h=>by
  rcases aS hv with ⟨i,t,rfl,rfl⟩ | ⟨x,t,rfl,rfl⟩
  · exact wpAny_pyHash_int h
  · exact wpAny_pyHash_str h
 eqBool:=fun hu hv h=>by
  rcases aS hu with ⟨i,t,rfl,rfl⟩ | ⟨x,t,rfl,rfl⟩
  · rcases aS hv with ⟨j,u,rfl,rfl⟩ | ⟨y,u,rfl,rfl⟩
    · rw [yW] at h; exact wpAny_eqBool_int h
    · rw [yY] at h; exact NJ i t y u _ _ _ _ h
  · rcases aS hv with ⟨j,u,rfl,rfl⟩ | ⟨y,u,rfl,rfl⟩
    · rw [yZ] at h; exact NI x t j u _ _ _ _ h
    · rw [yX] at h; exact wpAny_eqBool_str h
 «strs»:=fun k x t v h=>by
  rcases aS h with ⟨i,u,rfl,e⟩ | ⟨y,u,rfl,e⟩
  · exact nomatch e
  · injection e with e1 _
    subst e1
    cases v <;> rfl
theorem ln (prog:Program) (w:x_) (i:Int) (t:Tok):(bu prog w).is (.inl i) (.int i t)=true:=pe i t
theorem lq (prog:Program) (w:x_) (x:Str) (t:Tok):(bu prog w).is (.inr x) (.str x t)=true:=pf x t
inductive V where
 | non | bl (b:Bool) | int (i:Int) | str (x:Str) | byt (b:Array UInt8) | flt (b:UInt64) | ref (a:Addr) | ty (n:String)
 deriving DecidableEq
def RelV:V→Value→Prop
 | .non,u=>u=GH
 | .bl b,u=>u=Hy b
 | .int i,u=>∃ t,u=Nl i t
 | .str x,u=>∃ t,u=Ki x t
 | .byt b,u=>∃ t,u=Value.bytes b t
 | .flt b,u=>∃ t,u=Value.float b t
 | .ref a,u=>u=q_ a
 | .ty n,u=>u=GS n
abbrev Vals:List V→List Value→Prop:=OU RelV
theorem Vals.length {xs:List V} {us:List Value} (r:Vals xs us):xs.length=us.length:=L6 r
theorem Vals.get:∀ {xs:List V} {us:List Value} {i:Nat} {x:V},Vals xs us→xs[i]?=some x→∃ u,us[i]?=some u∧RelV x u
 | _,_,_,_,.nil,e=>by simp at e
 | _,_,0,_,.cons r _,e=>by simp at e; subst e; exact ⟨_,rfl,r⟩
 | _,_,i + 1,x,.cons _ t,e=>by
  obtain ⟨u,h1,h2⟩:=Vals.get (i:=i) (x:=x) t (by simpa using e)
  exact ⟨u,by simpa using h1,h2⟩
theorem Vals.set {x:V} {u:Value} (r:RelV x u):∀ {xs:List V} {us:List Value} (i:Nat),Vals xs us→Vals (xs.set i x) (us.set i u)
 | _,_,_,.nil=>.nil
 | _,_,0,.cons _ t=>.cons r t
 | _,_,i + 1,.cons q t=>.cons q (Vals.set r i t)
theorem Vals.append:∀ {xs ys:List V} {us ws:List Value},Vals xs us→Vals ys ws→Vals (xs ++ ys) (us ++ ws)
 | _,_,_,_,.nil,s=>s
 | _,_,_,_,.cons r t,s=>.cons r (Vals.append t s)
theorem Vals.take:∀ {xs:List V} {us:List Value} (n:Nat),Vals xs us→Vals (xs.take n) (us.take n)
 | _,_,0,_=>.nil
 | _,_,_ + 1,.nil=>.nil
 | _,_,n + 1,.cons r t=>.cons r (Vals.take n t)
theorem Vals.drop:∀ {xs:List V} {us:List Value} (n:Nat),Vals xs us→Vals (xs.drop n) (us.drop n)
 | _,_,0,r=>r
 | _,_,_ + 1,.nil=>.nil
 | _,_,n + 1,.cons _ t=>Vals.drop n t
def RelO:Option V→Option Value→Prop
 | some v,some u=>RelV v u
 | none,none=>True
 | _,_=>False
def KV {κ:Type}:List (κ×V)→List (κ×Value)→Prop:=OU fun (p:κ×V) (q:κ×Value)=>p.1=q.1∧RelV p.2 q.2
def kV:Key→V
 | .inl i=>.int i
 | .inr x=>.str x
inductive HO where
 | lst (xs:List V)
 | tup (xs:List V)
 | dK (kvs:List (Key×V)) | dT (kvs:List (List Key×V))
 | set (S:Int→Bool) (n:Nat)
 | ins (C dx:Addr) (fs:List (Str×V))
 | own (x:Addr)
 | xd (fs:List (Str×V))
 | met (f x:Addr)
 | rng (lo hi:Int)
 | frz (o:Obj) (u:HO)
 | tbl (ps:Array Value)
 | ext (φ:Heap→Prop)
abbrev Hp:=Addr→Option HO
def upd (H:Hp) (a:Addr) (o:HO):Hp:=fun b=>if b=a then some o else H b
theorem am {H:Hp} {a:Addr} {o:HO}:upd H a o a=some o:=by unfold upd; rw [if_pos rfl]
theorem ao {H:Hp} {a b:Addr} {o:HO} (h:b≠a):upd H a o b=H b:=by unfold upd; rw [if_neg h]
theorem wm {H:Hp} {a:Addr} {o u:HO}:upd (upd H a o) a u=upd H a u:=by
 funext b; unfold upd; split <;> rfl
theorem CL {H:Hp} {a b:Addr} {o u:HO} (h:H a=some o) (h':H b=some u) (d:o≠u):a≠b:=by
 intro e; subst e; rw [h] at h'; exact d (GL h')
theorem ar {H:Hp} {a b:Addr} {o:HO} (h:H a=some o) (h':H b=none):a≠b:=by
 intro e; subst e; rw [h] at h'; cases h'
section
variable (P:Program) (w:x_)
def ObjOk (H:Hp) (h:Heap) (a:Addr):HO→Prop
 | .lst xs=>xs.length≤sizeLine∧∃ (its:List Value) (n:Nat),Vals xs its∧h.get? a=some { cls:=.type "list",data:=.seq its.toArray n }
 | .tup xs=>xs.length≤sizeLine∧∃ its:List Value,Vals xs its∧OX h a its.toArray
 | .dK kvs=>kvs.length≤sizeLine∧(a == IF)=false∧∃ vs,KV kvs vs∧h.DictOf (bu P w) a vs
 | .dT kvs=>kvs.length≤sizeLine∧(a == IF)=false∧∃ xs:List (List Key×Addr×Value),
  OU (fun (p:List Key×V) (q:List Key×Addr×Value)=>p.1=q.1∧H q.2.1=some (.tup (p.1.map kV))∧RelV p.2 q.2.2) kvs xs ∧
  ∃ o es ep,h.get? a=some o∧o.ExactDict∧o.data=.dict es ep∧es.toList=xs.map (entryOfKey (Ma (bu P w)))∧(xs.map (·.1)).Nodup
 | .set S n=>h.SetOf (intKind P w) a S n
 | .ins C dx fs=>H dx=some (.own a)∧fs.length≤1000∧dx≠a∧h.get? a=some (Iu C dx) ∧
  ∃ mA,h.Ns1 dx mA∧(∀ f,RelO (fs.lookup f) (mA f))∧PySem.Within mA (fs.map (·.1))
 | .own _=>∃ o,h.get? a=some o
 | .xd fs=>∃ mA,h.Ns1 a mA∧∀ f,RelO (fs.lookup f) (mA f)
 | .rng lo hi=>∃ t u v,h.get? a=some { cls:=.type "range",data:=.fields #[.int lo t,.int hi u,.int 1 v] }
 | .frz o u=>h.get? a=some o∧ObjOk H h a u
 | .tbl ps=>h.get? a=some { cls:=.none,data:=.fields ps }
 | .met f x=>h.get? a=some (LQ (.ref f) (.ref x))
 | .ext φ=>φ h∧(∃ o,h.get? a=some o)∧∀ h1 h2:Heap,φ h1→(∀ o,h1.get? a=some o→h2.get? a=some o)→φ h2
def HOk (H:Hp) (h:Heap):Prop:=∀ a o,H a=some o→ObjOk P w H h a o
end
section
variable {P:Program} {w:x_} {H H':Hp} {h h':Heap} {a:Addr} {o:HO}
theorem ObjOk.lt (x:ObjOk P w H h a o):a < h.objs.size:=by
 cases o with
 | lst xs=>obtain ⟨_,_,_,_,e⟩:=x; exact o_ e
 | tup xs=>obtain ⟨_,_,_,p⟩:=x; exact p.lt
 | dK kvs=>obtain ⟨_,_,_,_,o,_,_,e,_⟩:=x; exact o_ e
 | dT kvs=>obtain ⟨_,_,_,_,o,_,_,e,_⟩:=x; exact o_ e
 | set S n=>obtain ⟨o,_,_,_,e,_⟩:=x; exact o_ e
 | ins C dx fs=>obtain ⟨_,_,_,e,_⟩:=x; exact o_ e
 | own y=>obtain ⟨_,e⟩:=x; exact o_ e
 | xd fs=>obtain ⟨_,⟨_,_,_,e,_⟩,_⟩:=x; exact o_ e
 | rng lo hi=>obtain ⟨_,_,_,e⟩:=x; exact o_ e
 | frz ob u=>obtain ⟨e,_⟩:=x; exact o_ e
 | tbl ps=>exact o_ (show h.get? a=some _ from x)
 | met f y=>exact o_ (show h.get? a=some _ from x)
 | ext φ=>obtain ⟨_,⟨_,e⟩,_⟩:=x; exact o_ e
theorem Paired.mapP {α β:Type} {F G:α→β→Prop}:∀ {l₁:List α} {l₂:List β},OU F l₁ l₂→(∀ a b,F a b→G a b)→OU G l₁ l₂
 | _,_,.nil,_=>.nil
 | _,_,.cons r t,f=>.cons (f _ _ r) (Paired.mapP t f)
theorem ObjOk.stay (x:ObjOk P w H h a o) (k:∀ b u,(b=a∨H b=some (.own a))→h.get? b=some u→h'.get? b=some u)
 (ho:∀ b,H b=some (.own a)→H' b=some (.own a)) (ht:∀ b xs,H b=some (.tup xs)→H' b=some (.tup xs)):ObjOk P w H' h' a o:=by
 induction o with
 | lst xs=>obtain ⟨z,its,n,r,e⟩:=x; exact ⟨z,its,n,r,k _ _ (.inl rfl) e⟩
 | tup xs=>obtain ⟨z,its,r,ob,e,c⟩:=x; exact ⟨z,its,r,ob,k _ _ (.inl rfl) e,c⟩
 | dK kvs=>obtain ⟨z,y,vs,r,ob,es,ep,e,c⟩:=x; exact ⟨z,y,vs,r,ob,es,ep,k _ _ (.inl rfl) e,c⟩
 | dT kvs =>
  obtain ⟨z,y,xs,r,ob,es,ep,e,c⟩:=x
  exact ⟨z,y,xs,Paired.mapP r fun p q z=>⟨z.1,ht _ _ z.2.1,z.2.2⟩,ob,es,ep,k _ _ (.inl rfl) e,c⟩
 | set S n=>obtain ⟨ob,es,ep,t,e,c⟩:=x; exact ⟨ob,es,ep,t,k _ _ (.inl rfl) e,c⟩
 | ins C dx fs =>
  obtain ⟨d,z,ne,e,mA,⟨od,es,ep,e2,c⟩,r⟩:=x
  exact ⟨ho _ d,z,ne,k _ _ (.inl rfl) e,mA,⟨od,es,ep,k _ _ (.inr d) e2,c⟩,r⟩
 | own y=>obtain ⟨ob,e⟩:=x; exact ⟨ob,k _ _ (.inl rfl) e⟩
 | xd fs=>obtain ⟨mA,⟨od,es,ep,e,c⟩,r⟩:=x; exact ⟨mA,⟨od,es,ep,k _ _ (.inl rfl) e,c⟩,r⟩
 | rng lo hi=>obtain ⟨t,u,v,e⟩:=x; exact ⟨t,u,v,k _ _ (.inl rfl) e⟩
 | frz ob u ih=>obtain ⟨e,q⟩:=x; exact ⟨k _ _ (.inl rfl) e,ih q⟩
 | tbl ps =>
  have e:h.get? a=some { cls:=.none,data:=.fields ps }:=x
  show h'.get? a=some { cls:=.none,data:=.fields ps }
  exact k a _ (.inl rfl) e
 | met f y =>
  have e:h.get? a=some (LQ (.ref f) (.ref y)):=x
  show h'.get? a=some (LQ (.ref f) (.ref y))
  exact k a _ (.inl rfl) e
 | ext φ=>obtain ⟨p,⟨o,e⟩,st⟩:=x; exact ⟨st _ _ p fun o q=>k _ _ (.inl rfl) q,⟨o,k _ _ (.inl rfl) e⟩,st⟩
theorem HOk.lt (x:HOk P w H h) (e:H a=some o):a < h.objs.size:=(x a o e).lt
theorem HOk.fresh (x:HOk P w H h) (e:h.objs.size≤a):H a=none:=by
 cases q:H a with
 | none=>rfl
 | some u=>exact absurd (A_ (x.lt q) e) (Hj _)
theorem HOk.kept (x:HOk P w H h) (k:∀ b u,h.get? b=some u→h'.get? b=some u):HOk P w H h':=fun a o e =>
 (x a o e).stay (fun b u _ q=>k b u q) (fun _ q=>q) fun _ _ q=>q
theorem HOk.laid (x:HOk P w H h) (k:∀ b u,h.get? b=some u→h'.get? b=some u) (hp:h.objs.size≤a) (new:ObjOk P w (upd H a o) h' a o):HOk P w (upd H a o) h':=fun b u e=>by
 have hn:=x.fresh hp
 by_cases hb:b=a
 · subst hb; rw [am] at e; cases e; exact new
 · rw [ao hb] at e
   exact (x b u e).stay (fun c v _ q=>k c v q) (fun c q=>by rw [ao (ar q hn)]; exact q) fun c xs q=>by rw [ao (ar q hn)]; exact q
end
def Rd (H:Hp) (a:Addr) (u:HO):Prop:=H a=some u∨∃ o,H a=some (.frz o u)
theorem Rd.of {H:Hp} {a:Addr} {u:HO} (h:H a=some u):Rd H a u:=.inl h
theorem Rd.ok {P:Program} {w:x_} {H:Hp} {h:Heap} {a:Addr} {u:HO} (r:Rd H a u) (x:HOk P w H h):ObjOk P w H h a u:=by
 rcases r with r | ⟨o,r⟩
 · exact x a u r
 · obtain ⟨_,q⟩:=x a _ r
   exact q
def Mut:Option HO→Prop
 | some (.lst _)=>True
 | some (.dK _)=>True
 | some (.dT _)=>True
 | some (.set _ _)=>True
 | some (.ins _ _ _)=>True
 | some (.ext _)=>True
 | _=>False
section
variable {P:Program} {w:x_} {H:Hp} {h h':Heap} {x e:Addr} {o':HO}
theorem HOk.write (ok:HOk P w H h) (mu:Mut (H x)) (he:e=x∨H e=some (.own x)) (k:∀ b u,b≠e→h.get? b=some u→h'.get? b=some u) (heo:∃ u,h'.get? e=some u)
 (new:ObjOk P w (upd H x o') h' x o'):HOk P w (upd H x o') h':=fun b u q=>by
 have nown:∀ c y,H c=some (.own y)→c≠x:=fun c y r z=>by subst z; rw [r] at mu; exact mu
 have ntup:∀ c xs,H c=some (.tup xs)→c≠x:=fun c xs r z=>by subst z; rw [r] at mu; exact mu
 by_cases hb:b=x
 · subst hb; rw [am] at q; cases q; exact new
 · rw [ao hb] at q
   by_cases hbe:b=e
   · have q':H b=some (.own x):=by
      rcases he with z | z
      · exact absurd (hbe.trans z) hb
      · rw [hbe]; exact z
     rw [q] at q'; cases q'
     obtain ⟨v,hv⟩:=heo
     exact ⟨v,by rw [hbe]; exact hv⟩
   · refine (ok b u q).stay (fun c v hc r=>k c v ?_ r) (fun c r=>by rw [ao (nown c b r)]; exact r) fun c xs r=>by rw [ao (ntup c xs r)]; exact r
     rcases hc with rfl | hc
     · exact hbe
     · rintro rfl
       rcases he with z | z
       · exact nown c b hc z
       · rw [hc] at z; cases z; exact hb rfl
end
structure Un (fs ex:List Addr) (H H':Hp) (h h':Heap):Prop where
 keep:∀ b o,h.get? b=some o→H b=none→b ∉ fs→b ∉ ex→h'.get? b=some o
 slot:∀ b o,h.get? b=some o→H b=none→b∈fs→b ∉ ex→∃ sl,h'.get? b=some { o with slots:=sl }
 free:∀ b o,h.get? b=some o→H b=none→b ∉ ex→H' b=none
 there:∀ b o,h.get? b=some o→b ∉ ex→∃ o',h'.get? b=some o'
 tups:∀ b xs,H b=some (.tup xs)→H' b=some (.tup xs)
 frzs:∀ b o u,H b=some (.frz o u)→H' b=some (.frz o u)
 tbls:∀ b ps,H b=some (.tbl ps)→∃ more,H' b=some (.tbl (ps ++ more))
section
variable {fs fs' ex ex':List Addr} {H H1 H2:Hp} {h h1 h2 h':Heap} {a x e:Addr} {o:HO}
theorem Un.any (u:Un fs ex H H1 h h1) {b:Addr} {ob:Obj} (q:h.get? b=some ob) (n:H b=none) (hx:b ∉ ex):∃ sl,h1.get? b=some { ob with slots:=sl }:=by
 by_cases hb:b∈fs
 · exact u.slot b ob q n hb hx
 · exact ⟨ob.slots,u.keep b ob q n hb hx⟩
theorem Un.trans (a:Un fs ex H H1 h h1) (b:Un fs ex H1 H2 h1 h2):Un fs ex H H2 h h2 where
 keep:=fun c ob q n hc hx=>b.keep c ob (a.keep c ob q n hc hx) (a.free c ob q n hx) hc hx
 slot:=fun c ob q n hc hx=>by
  obtain ⟨sl,e1⟩:=a.slot c ob q n hc hx
  obtain ⟨sl',e2⟩:=b.slot c _ e1 (a.free c ob q n hx) hc hx
  exact ⟨sl',e2⟩
 free:=fun c ob q n hx=>by
  obtain ⟨o',e1⟩:=a.there c ob q hx
  exact b.free c o' e1 (a.free c ob q n hx) hx
 there:=fun c ob q hx=>by
  obtain ⟨o',e1⟩:=a.there c ob q hx
  exact b.there c o' e1 hx
 tups:=fun c xs q=>b.tups c xs (a.tups c xs q)
 frzs:=fun c ob xs q=>b.frzs c ob xs (a.frzs c ob xs q)
 tbls:=fun c ps q=>by
  obtain ⟨m1,e1⟩:=a.tbls c ps q
  obtain ⟨m2,e2⟩:=b.tbls c _ e1
  exact ⟨m1 ++ m2,by rw [e2,NU]⟩
theorem Un.kept (k:∀ b u,h.get? b=some u→h'.get? b=some u):Un fs ex H H h h' :=
 ⟨fun b ob q _ _ _=>k b ob q,fun b ob q _ _ _=>⟨ob.slots,k b ob q⟩,fun _ _ _ n _=>n,fun b ob q _=>⟨ob,k b ob q⟩,fun _ _ q=>q,fun _ _ _ q=>q,fun _ ps q=>⟨#[],by rw [q]; simp⟩⟩
theorem Un.refl:Un fs ex H H h h:=Un.kept fun _ _ q=>q
theorem Un.laid (k:∀ b u,h.get? b=some u→h'.get? b=some u) (hp:h.objs.size≤a) (hn:H a=none):Un fs ex H (upd H a o) h h' where
 keep:=fun b u q _ _ _=>k b u q
 slot:=fun b u q _ _ _=>⟨u.slots,k b u q⟩
 free:=fun b u q n _=>by rw [ao (z_ (A_ (o_ q) hp))]; exact n
 there:=fun b u q _=>⟨u,k b u q⟩
 tups:=fun b xs q=>by rw [ao (ar q hn)]; exact q
 frzs:=fun b u xs q=>by rw [ao (ar q hn)]; exact q
 tbls:=fun b ps q=>⟨#[],by rw [ao (ar q hn),q]; simp⟩
theorem Un.write (mu:Mut (H x)) (he:e=x∨H e=some (.own x)) (k:∀ b u,b≠e→h.get? b=some u→h'.get? b=some u) (heo:∃ u,h'.get? e=some u):Un fs ex H (upd H x o) h h':=by
 have hx:∀ b,H b=none→b≠x:=fun b n z=>by subst z; rw [n] at mu; exact mu
 have hb:∀ b,H b=none→b≠e:=fun b n z=>by
  subst z
  rcases he with r | r
  · exact hx b n r
  · rw [n] at r; cases r
 have hm:∀ b u,H b=some u→¬ Mut (some u)→b≠x:=fun b u q nm z=>by subst z; rw [q] at mu; exact nm mu
 refine ⟨fun b u q n _ _=>k b u (hb b n) q,fun b u q n _ _=>⟨u.slots,k b u (hb b n) q⟩,fun b u q n _=>by rw [ao (hx b n)]; exact n,fun b u q _=>?_,
  fun b xs q=>by rw [ao (hm b _ q fun z=>z)]; exact q,fun b u xs q=>by rw [ao (hm b _ q fun z=>z)]; exact q,fun b ps q=>⟨#[],by rw [ao (hm b _ q fun z=>z),q]; simp⟩⟩
 by_cases hbe:b=e
 · subst hbe; exact heo
 · exact ⟨u,k b u hbe q⟩
theorem Un.mono (u:Un fs ex H H1 h h1) (hs:∀ b∈fs,b∈fs') (hx:∀ b∈ex,b∈ex'):Un fs' ex' H H1 h h1 :=
 ⟨fun b ob q n hb he=>u.keep b ob q n (fun z=>hb (hs b z)) fun z=>he (hx b z),fun _ _ q n _ he=>u.any q n fun z=>he (hx _ z),fun b ob q n he=>u.free b ob q n fun z=>he (hx b z),fun b ob q he=>u.there b ob q fun z=>he (hx b z),u.tups,u.frzs,u.tbls⟩
end
def trk (h:Heap) (H:Hp):List Addr:=(h_ h.objs.size).filter fun a=>(H a).isSome
def sM (h:Heap) (H:Hp):Heap:=OB h (trk h H)
theorem ph (h:Heap) (H:Hp):(sM h H).objs.size=h.objs.size:=PySem.W.hideAll_size _ _
theorem sN {h:Heap} {H:Hp} {b:Addr} {o:Obj} (e:h.get? b=some o) (n:H b=none):(sM h H).get? b=some o :=
 Lk _ e fun hm=>by
  have q:(H b).isSome=true:=(G1.mp hm).2
  rw [n] at q; simp at q
theorem wn {h:Heap} {H:Hp} {b:Addr} {o:Obj} (e:(sM h H).get? b=some o):h.get? b=some o∧H b=none:=by
 have e':h.get? b=some o:=IZ (trk h H) e
 refine ⟨e',?_⟩
 cases q:H b with
 | none=>rfl
 | some x =>
  have hm:b∈trk h H:=G1.mpr ⟨Gy.mpr (o_ e'),by simp [q]⟩
  have z:(sM h H).get? b=none:=HB (trk h H) hm
  rw [z] at e; cases e
def wo (g h:Heap) (L:Addr):List (Addr×Obj):=(h_ h.objs.size).filterMap fun a=>if a=L∨(g.get? a).isSome=true then none else (h.get? a).map fun o=>(a,o)
def rest (g h:Heap) (L d:Addr):List (Addr×Obj):=(wo g h L).filter fun p=>decide (p.1≠d)
structure Mod (K:ck) (mg:Str→Option Value) (base:Heap):Prop where
 kin:K.In base
 glob:base.Ns w_ mg
 blt:∃ mb,base.Ns NF mb∧∀ x:Str,x≠"__name__"→mb x=Hk x
 nolimit:base.NoLimit
structure Cx where
 prog:Program
 w:x_
 K:ck
 mg:Str→Option Value
 base:Heap
 A:u_
 N:List Str
 s₀:c_
 H₀:Hp
 env:Env
 outer:List Env
 stack:List Env
 ex:List Addr
 fn:Str→Bool
 calm:Bool
 pn:List (Addr×Obj)
 xe:Value→c_→Prop
def frs (l:List Env):List Addr:=l.filterMap (·.frame)
abbrev Cx.fs (X:Cx):List Addr:=frs X.outer
def Vis (sc:Scope) (x:Str):Prop:=sc.names.lookup x=some .local∨sc.names.lookup x=some .cell∨sc.names.lookup x=some .free
def Loc (sc:Scope) (x:Str):Prop:=sc.names.lookup x=some .local∨sc.names.lookup x=some .cell
def FB (env:Env) (h:Heap) (m:Str→Option Value) (x:Str) (u:Value):Prop :=
 (env.kindOf x=some .local∧m x=some u)∨((env.kindOf x=some .cell∨env.kindOf x=some .free)∧∃ c,env.cells.lookup x=some c∧h.IsCell c (some u))
structure Cx.Ok (X:Cx):Prop where
 mod:Mod X.K X.mg X.base
 kind:X.env.scope.kind=.function
 glob:X.env.globals=w_
 blt:X.env.builtins=NF
 above:X.s₀.heap.objs.size≤X.env.locals
 inj:∀ x y c,X.env.cells.lookup x=some c→X.env.cells.lookup y=some c→x=y
 has:∀ x,(X.env.kindOf x=some .cell∨X.env.kindOf x=some .free)→∃ c,X.env.cells.lookup x=some c
 cab:∀ x c,X.fn x=true→X.env.cells.lookup x=some c→X.s₀.heap.objs.size≤c
 hd:X.calm=true→X.A.handled=none
 frames:X.A.frames=some X.stack
 stk:X.stack=X.outer∨(X.stack=X.env :: X.outer∧X.env.frame=some X.env.locals)
 exf:∀ b∈X.ex,b≠X.env.locals∧∀ x c,X.env.cells.lookup x=some c→c≠b
 bs:∀ b o,X.base.get? b=some o→X.s₀.heap.get? b=some o∧X.H₀ b=none
 bsz:X.base.objs.size≤X.s₀.heap.objs.size
 noex:∀ b o,X.base.get? b=some o→b ∉ X.ex
 exfs:∀ b∈X.ex,b ∉ X.fs
 funs:X.s₀.heap.FunFrames X.base X.outer
 frf:∀ b∈X.fs,X.H₀ b=none
structure Inv (X:Cx) (pins:List (Addr×Obj)) (σ:List (Option V)) (H:Hp) (s:c_):Prop where
 ok:X.Ok
 os:s.os=X.s₀.os
 bare:Lm s.gens
 base:Un X.fs X.ex X.H₀ H X.s₀.heap s.heap
 loc:∃ m,s.heap.Ns X.env.locals m∧∀ (i:Nat) (x:Str) (v:V),X.N[i]?=some x→σ[i]?=some (some v)→Vis X.env.scope x→∃ u,RelV v u∧FB X.env s.heap m x u
 cell:∀ x c,X.env.cells.lookup x=some c→∃ v,s.heap.IsCell c v
 free:H X.env.locals=none
 freeC:∀ x c,X.env.cells.lookup x=some c→H c=none
 pin:∀ p∈X.pn ++ pins,s.heap.get? p.1=some p.2∧H p.1=none∧p.1≠X.env.locals∧p.1 ∉ X.fs∧∀ v,p.2.data≠.cell v
 hok:HOk X.prog X.w H s.heap
 len:σ.length=X.N.length
section
variable {X:Cx} {pins:List (Addr×Obj)} {σ:List (Option V)} {H H':Hp} {s:c_} {h':Heap}
theorem Cx.Ok.nofr (ok:X.Ok) {b:Addr} {o:Obj} (e:X.base.get? b=some o):b ∉ X.fs:=fun hb=>by
 have:=(ok.funs.mem hb).1
 rw [e] at this; cases this
theorem Inv.bs (I:Inv X pins σ H s):∀ b o,X.base.get? b=some o→s.heap.get? b=some o∧H b=none:=fun b o e =>
 ⟨I.base.keep b o (I.ok.bs b o e).1 (I.ok.bs b o e).2 (I.ok.nofr e) (I.ok.noex b o e),I.base.free b o (I.ok.bs b o e).1 (I.ok.bs b o e).2 (I.ok.noex b o e)⟩
theorem Inv.bk (I:Inv X pins σ H s):∀ b o,X.base.get? b=some o→s.heap.get? b=some o:=fun b o e=>(I.bs b o e).1
theorem Inv.mod (I:Inv X pins σ H s):Mod X.K X.mg X.base:=I.ok.mod
theorem Inv.kIn (I:Inv X pins σ H s):X.K.In s.heap:=I.ok.mod.kin.keeps I.bk
theorem Inv.nolimit (I:Inv X pins σ H s):s.heap.NoLimit:=I.ok.mod.nolimit.keeps I.bk
theorem Inv.fr (I:Inv X pins σ H s):∃ m,Fr X.base X.env.locals s.heap m :=
 let ⟨m,hn,_⟩:=I.loc
 ⟨m,hn,I.bk,GG I.ok.bsz I.ok.above⟩
theorem Inv.lt (I:Inv X pins σ H s):X.env.locals < s.heap.objs.size:=let ⟨_,hn,_⟩:=I.loc; hn.lt
theorem Inv.sz (I:Inv X pins σ H s):X.s₀.heap.objs.size≤s.heap.objs.size:=GG I.ok.above (KG I.lt)
theorem Inv.nofs (I:Inv X pins σ H s) {a:Addr} (h:s.heap.objs.size≤a):a ∉ X.fs:=fun hb=>by
 obtain ⟨_,o,ho,_⟩:=I.ok.funs.mem hb
 exact absurd (A_ (o_ ho) (GG I.sz h)) (Hj _)
theorem Inv.cne (I:Inv X pins σ H s):∀ x c,X.env.cells.lookup x=some c→c≠X.env.locals:=fun x c e z=>by
 obtain ⟨v,o,ho,hd⟩:=I.cell x c e
 obtain ⟨m,⟨o',es,ep,ho',hd',_⟩,_⟩:=I.loc
 rw [z,ho'] at ho; cases ho; rw [hd'] at hd; cases hd
theorem Inv.funs (I:Inv X pins σ H s):s.heap.FunFrames X.base X.outer:=by
 have all:∀ (l:List Env),(∀ b∈frs l,b∈X.fs)→X.s₀.heap.FunFrames X.base l→s.heap.FunFrames X.base l:=by
  intro l
  induction l with
  | nil=>intro _ _; trivial
  | cons env r ih =>
   intro hs hl
   obtain ⟨hk,⟨L,o,hf,hn,ho,hd⟩,hr⟩:=hl
   have hL:L∈X.fs:=hs L (by unfold frs; rw [IM,hf]; exact j_)
   obtain ⟨sl,e⟩:=I.base.slot L o ho (I.ok.frf L hL) hL fun z=>I.ok.exfs L z hL
   exact ⟨hk,⟨L,_,hf,hn,e,hd⟩,ih (fun b hb=>hs b (by unfold frs; rw [IM,hf]; exact k_ _ hb)) hr⟩
 exact all X.outer (fun _ hb=>hb) I.ok.funs
theorem Inv.stack (I:Inv X pins σ H s):s.heap.FunFrames X.base X.stack:=by
 rcases I.ok.stk with e | ⟨e,hf⟩
 · rw [e]; exact I.funs
 · rw [e]
   obtain ⟨m,hn,_⟩:=I.loc
   refine .cons (by rw [I.ok.kind]; decide) hf hn ?_ I.funs
   exact K6 (GG I.ok.bsz I.ok.above)
theorem Inv.stkSub (I:Inv X pins σ H s):∀ b∈frs X.stack,b∈X.env.locals :: X.fs:=fun b hb=>by
 rcases I.ok.stk with e | ⟨e,hf⟩
 · rw [e] at hb; exact k_ _ hb
 · rw [e] at hb
   unfold frs at hb
   rw [IM,hf] at hb
   exact hb
theorem Inv.stkFree (I:Inv X pins σ H s):∀ b∈frs X.stack,H b=none:=fun b hb=>by
 rcases p_.mp (I.stkSub b hb) with e | hb
 · rw [e]; exact I.free
 · obtain ⟨_,o,ho,_⟩:=I.ok.funs.mem hb
   exact I.base.free b o ho (I.ok.frf b hb) fun z=>I.ok.exfs b z hb
theorem Inv.step {g':Array LA} {t':Nat} {d':Drawn} {ch:List Addr} (I:Inv X pins σ H s)
 (hch:∀ b∈ch,(b∈X.ex∨X.s₀.heap.objs.size≤b)∧b≠X.env.locals∧(∀ x c,X.env.cells.lookup x=some c→c≠b)∧∀ p∈X.pn ++ pins,p.1≠b)
 (keep:∀ b o,b≠X.env.locals→b ∉ X.fs→b ∉ ch→s.heap.get? b=some o→H b=none→h'.get? b=some o)
 (slot:∀ b o,b≠X.env.locals→b∈X.fs→b ∉ ch→s.heap.get? b=some o→H b=none→∃ sl,h'.get? b=some { o with slots:=sl }) (free:∀ b o,b ∉ ch→s.heap.get? b=some o→H b=none→H' b=none)
 (there:∀ b o,b ∉ ch→s.heap.get? b=some o→∃ o',h'.get? b=some o')
 (tups:∀ b xs,H b=some (.tup xs)→H' b=some (.tup xs)) (frzs:∀ b o u,H b=some (.frz o u)→H' b=some (.frz o u)) (tbls:∀ b ps,H b=some (.tbl ps)→∃ more,H' b=some (.tbl (ps ++ more)))
 (ns:∀ m,s.heap.Ns X.env.locals m→h'.Ns X.env.locals m) (hok:HOk X.prog X.w H' h') (hg:Lm g') :
 Inv X pins σ H' { s with heap:=h',gens:=g',drawn:=d',toks:=t' }:=by
 have neL:∀ b o,X.s₀.heap.get? b=some o→b≠X.env.locals:=fun b o e=>z_ (A_ (o_ e) I.ok.above)
 have neC:∀ b o,X.s₀.heap.get? b=some o→b ∉ X.ex→b ∉ ch:=fun b o e hx hb=>by
  rcases (hch b hb).1 with z | z
  · exact hx z
  · exact absurd (A_ (o_ e) z) (Hj _)
 have cellK:∀ x c,X.env.cells.lookup x=some c→∀ v,s.heap.IsCell c v→h'.IsCell c v:=fun x c e v ⟨o,ho,hd⟩=>by
  have nch:c ∉ ch:=fun z=>(hch c z).2.2.1 x c e rfl
  by_cases hc:c∈X.fs
  · obtain ⟨sl,q⟩:=slot c o (I.cne x c e) hc nch ho (I.freeC x c e)
    exact ⟨_,q,hd⟩
  · exact ⟨o,keep c o (I.cne x c e) hc nch ho (I.freeC x c e),hd⟩
 refine ⟨I.ok,I.os,hg,⟨fun b o e n hb hx=>?_,fun b o e n hb hx=>?_,fun b o e n hx=>?_,fun b o e hx=>?_,fun b xs e=>tups b xs (I.base.tups b xs e),fun b o xs e=>frzs b o xs (I.base.frzs b o xs e),fun b ps e=>?_⟩,?_,fun x c e=>?_,?_,fun x c e=>?_,fun p hp=>?_,hok,I.len⟩
 · exact keep b o (neL b o e) hb (neC b o e hx) (I.base.keep b o e n hb hx) (I.base.free b o e n hx)
 · obtain ⟨sl,e1⟩:=I.base.slot b o e n hb hx
   obtain ⟨sl',e2⟩:=slot b _ (neL b o e) hb (neC b o e hx) e1 (I.base.free b o e n hx)
   exact ⟨sl',e2⟩
 · obtain ⟨o',e1⟩:=I.base.there b o e hx
   exact free b o' (neC b o e hx) e1 (I.base.free b o e n hx)
 · obtain ⟨o',e1⟩:=I.base.there b o e hx
   exact there b o' (neC b o e hx) e1
 · obtain ⟨m1,e1⟩:=I.base.tbls b ps e
   obtain ⟨m2,e2⟩:=tbls b _ e1
   exact ⟨m1 ++ m2,by rw [e2,NU]⟩
 · obtain ⟨m,hn,hl⟩:=I.loc
   refine ⟨m,ns m hn,fun i x v e1 e2 e3=>?_⟩
   obtain ⟨u,r,l⟩:=hl i x v e1 e2 e3
   refine ⟨u,r,?_⟩
   rcases l with l | ⟨k,c,e,z⟩
   · exact .inl l
   · exact .inr ⟨k,c,e,cellK x c e _ z⟩
 · obtain ⟨v,z⟩:=I.cell x c e
   exact ⟨v,cellK x c e v z⟩
 · obtain ⟨m,⟨o,_,_,ho,_⟩,_⟩:=I.loc
   exact free _ o (fun z=>(hch _ z).2.1 rfl) ho I.free
 · obtain ⟨v,o,ho,hd⟩:=I.cell x c e
   exact free c o (fun z=>(hch c z).2.2.1 x c e rfl) ho (I.freeC x c e)
 · obtain ⟨e,n,ne,nf,d⟩:=I.pin p hp
   have nch:p.1 ∉ ch:=fun z=>(hch p.1 z).2.2.2 p hp rfl
   exact ⟨keep p.1 p.2 ne nf nch e n,free p.1 p.2 nch e n,ne,nf,d⟩
theorem Inv.un {t':Nat} (I:Inv X pins σ H s) (u:Un X.fs [] H H' s.heap h') (hok:HOk X.prog X.w H' h'):Inv X pins σ H' { s with heap:=h',toks:=t' }:=by
 obtain ⟨m,⟨o,es,ep,ho,r⟩,_⟩:=id I.loc
 obtain ⟨sl,hL⟩:=u.any ho I.free (by simp)
 exact I.step (g':=s.gens) (d':=s.drawn) (ch:=[]) (fun _ z=>nomatch z) (fun b o _ hb _ e n=>u.keep b o e n hb (by simp)) (fun b o _ hb _ e n=>u.slot b o e n hb (by simp)) (fun b o _ e n=>u.free b o e n (by simp)) (fun b o _ e=>u.there b o e (by simp)) u.tups u.frzs u.tbls (fun m' hm=>by
  obtain ⟨o',es',ep',ho',r'⟩:=hm
  rw [ho] at ho'; cases ho'
  exact ⟨_,es',ep',hL,r'⟩) hok I.bare
theorem Inv.call {g':Array LA} {t':Nat} {d':Drawn} {ch:List Addr} (I:Inv X pins σ H s) (u:Un (frs X.stack) ch H H' s.heap h') (hok:HOk X.prog X.w H' h') (hg:Lm g')
 (hch:∀ b∈ch,(b∈X.ex∨X.s₀.heap.objs.size≤b)∧b≠X.env.locals∧(∀ x c,X.env.cells.lookup x=some c→c≠b)∧∀ p∈X.pn ++ pins,p.1≠b) :
 Inv X pins σ H' { s with heap:=h',gens:=g',drawn:=d',toks:=t' }:=by
 obtain ⟨m,⟨o,es,ep,ho,r⟩,_⟩:=id I.loc
 obtain ⟨sl,hL⟩:=u.any ho I.free fun z=>(hch _ z).2.1 rfl
 exact I.step (ch:=ch) hch (fun b o hL hb hc e n=>u.keep b o e n (fun z=>(p_.mp (I.stkSub b z)).elim hL hb) hc) (fun b o _ _ hc e n=>u.any e n hc) (fun b o hc e n=>u.free b o e n hc) (fun b o hc e=>u.there b o e hc) u.tups u.frzs u.tbls (fun m' hm=>by
  obtain ⟨o',es',ep',ho',r'⟩:=hm
  rw [ho] at ho'; cases ho'
  exact ⟨_,es',ep',hL,r'⟩) hok hg
theorem Inv.turned {t':Nat} {it:Addr} (I:Inv X pins σ H s) (k:∀ b o,b≠it→s.heap.get? b=some o→h'.get? b=some o) (hn:H it=none) (hL:it≠X.env.locals)
 (h1:it∈X.ex∨X.s₀.heap.objs.size≤it) (h2:∀ x c,X.env.cells.lookup x=some c→c≠it) (h3:∀ p∈X.pn ++ pins,p.1≠it):Inv X pins σ H { s with heap:=h',toks:=t' }:=by
 have nit:∀ b u,H b=some u→b≠it:=fun b u e z=>by rw [z,hn] at e; cases e
 refine I.step (g':=s.gens) (d':=s.drawn) (ch:=[it]) (fun b hb=>?_) (fun b o _ _ hc e _=>k b o (fun z=>hc (by simp [z])) e) (fun b o _ _ hc e _=>⟨o.slots,k b o (fun z=>hc (by simp [z])) e⟩) (fun _ _ _ _ n=>n)
  (fun b o hc e=>⟨o,k b o (fun z=>hc (by simp [z])) e⟩) (fun _ _ e=>e) (fun _ _ _ e=>e) (fun b ps e=>⟨#[],by rw [e]; simp⟩) (fun m hm=>?_) (fun b u e=>?_) I.bare
 · have e:b=it:=by simpa using hb
   subst e
   exact ⟨h1,hL,h2,h3⟩
 · obtain ⟨o,es,ep,ho,r⟩:=hm
   exact ⟨o,es,ep,k _ o (Im hL) ho,r⟩
 · refine (I.hok b u e).stay (fun c v hc q=>k c v ?_ q) (fun _ q=>q) fun _ _ q=>q
   rcases hc with z | z
   · rw [z]; exact nit b u e
   · exact nit c _ z
theorem Inv.tok (I:Inv X pins σ H s) (t:Nat):Inv X pins σ H { s with toks:=t }:=I.un (h':=s.heap) (t':=t) Un.refl I.hok
theorem Inv.kept {t':Nat} (I:Inv X pins σ H s) (k:∀ b u,s.heap.get? b=some u→h'.get? b=some u):Inv X pins σ H { s with heap:=h',toks:=t' }:=I.un (Un.kept k) (I.hok.kept k)
theorem Inv.laid {a:Addr} {o:HO} {t':Nat} (I:Inv X pins σ H s) (k:∀ b u,s.heap.get? b=some u→h'.get? b=some u) (hp:s.heap.objs.size≤a) (new:ObjOk X.prog X.w (upd H a o) h' a o) :
 Inv X pins σ (upd H a o) { s with heap:=h',toks:=t' }:=I.un (Un.laid k hp (I.hok.fresh hp)) (I.hok.laid k hp new)
theorem Inv.write {x e:Addr} {o:HO} {t':Nat} (I:Inv X pins σ H s) (mu:Mut (H x)) (he:e=x∨H e=some (.own x)) (k:∀ b u,b≠e→s.heap.get? b=some u→h'.get? b=some u) (heo:∃ u,h'.get? e=some u)
 (new:ObjOk X.prog X.w (upd H x o) h' x o):Inv X pins σ (upd H x o) { s with heap:=h',toks:=t' }:=I.un (Un.write mu he k heo) (I.hok.write mu he k heo new)
theorem Inv.pins_of {pins':List (Addr×Obj)} (I:Inv X pins σ H s) (h:∀ p∈pins',s.heap.get? p.1=some p.2∧H p.1=none∧p.1≠X.env.locals∧p.1 ∉ X.fs∧∀ v,p.2.data≠.cell v):Inv X pins' σ H s :=
 ⟨I.ok,I.os,I.bare,I.base,I.loc,I.cell,I.free,I.freeC,fun p hp=>(F_.mp hp).elim (fun z=>I.pin p (Gp _ z)) (h p),I.hok,I.len⟩
theorem jc {N:List Str} (hN:N.Nodup) {i j:Nat} {x:Str} (a:N[i]?=some x) (b:N[j]?=some x):i=j:=by
 obtain ⟨h1,e1⟩:=xy.mp a
 obtain ⟨h2,e2⟩:=xy.mp b
 exact (List.getElem_inj hN).mp (e1.trans e2.symm)
theorem pj {M:Md} {A:u_} {E:Value→c_→Prop} {i:Nat} {x:Str} {v:V} {u:Value} {Q:Unit→c_→Prop} (I:Inv X pins σ H s) (hN:X.N.Nodup) (hi:X.N[i]?=some x) (hx:Loc X.env.scope x) (r:RelV v u)
 (h:∀ s',Inv X pins (σ.set i (some v)) H s'→(∃ a,Hl a s.heap s'.heap∧(a=X.env.locals∨X.env.cells.lookup x=some a))→Q () s') (hf:X.fn x=true∨X.env.scope.names.lookup x=some .local:=by first | exact .inl rfl | exact .inr rfl | assumption):m_ M A (storeName X.env x u) Q E s:=by
 obtain ⟨m,hn,hl⟩:=id I.loc
 have hcls:(X.env.scope.kind == .class || (X.env.scope.kind == .module && X.env.locals != X.env.globals))=false:=by rw [I.ok.kind]; rfl
 have hiσ:i < σ.length:=by rw [I.len]; exact (xy.mp hi).1
 have cne:=I.cne
 have tracked:∀ {a:Addr} {h':Heap},(∃ o,s.heap.get? a=some o∧H a=none)→Hl a s.heap h'→HOk X.prog X.w H h':=fun {a h'} ha hs b ob e=>by
  obtain ⟨_,_,hfree⟩:=ha
  refine (I.hok b ob e).stay (fun c w' hc q=>(hs.2 c ?_).trans q) (fun _ q=>q) fun _ _ q=>q
  rintro rfl
  rcases hc with rfl | hc
  · rw [hfree] at e; cases e
  · rw [hfree] at hc; cases hc
 rcases hx with hk | hk
 · refine wpAny_storeName_local hk hn (fun h' hn' hs=>?_) hcls
   obtain ⟨oL,_,_,hoL,_⟩:=id hn
   refine h _ ⟨I.ok,I.os,I.bare,⟨fun b o e n hb hx=>?_,fun b o e n hb hx=>?_,I.base.free,fun b o e hx=>?_,I.base.tups,I.base.frzs,I.base.tbls⟩,⟨_,hn',fun j y v' e1 e2 e3=>?_⟩,fun y c e=>?_,I.free,I.freeC,fun p hp=>?_,tracked ⟨oL,hoL,I.free⟩ hs,by simpa using I.len⟩ ⟨_,hs,.inl rfl⟩
   · exact (hs.2 b (z_ (A_ (o_ e) I.ok.above))).trans (I.base.keep b o e n hb hx)
   · obtain ⟨sl,e1⟩:=I.base.slot b o e n hb hx
     exact ⟨sl,(hs.2 b (z_ (A_ (o_ e) I.ok.above))).trans e1⟩
   · obtain ⟨o',e1⟩:=I.base.there b o e hx
     exact ⟨o',(hs.2 b (z_ (A_ (o_ e) I.ok.above))).trans e1⟩
   · by_cases hj:j=i
     · subst hj
       rw [hi] at e1; cases e1
       rw [B_ hiσ] at e2
       cases e2
       exact ⟨u,r,.inl ⟨hk,by simp⟩⟩
     · rw [uk (Im hj)] at e2
       obtain ⟨u',r',q⟩:=hl j y v' e1 e2 e3
       refine ⟨u',r',?_⟩
       rcases q with ⟨k,e⟩ | ⟨k,c,e,z⟩
       · refine .inl ⟨k,?_⟩
         have:y≠x:=fun e=>hj (jc hN e1 (e ▸ hi))
         simp [this,e]
       · exact .inr ⟨k,c,e,z.sameBut hs (cne y c e)⟩
   · obtain ⟨w',z⟩:=I.cell y c e
     exact ⟨w',z.sameBut hs (cne y c e)⟩
   · obtain ⟨e,n,ne,nf,d⟩:=I.pin p hp
     exact ⟨(hs.2 p.1 ne).trans e,n,ne,nf,d⟩
 · have hfn:X.fn x=true:=by
    rcases hf with z | z
    · exact z
    · rw [z] at hk; cases hk
   obtain ⟨c,hc⟩:=I.ok.has x (.inl hk)
   obtain ⟨w',z⟩:=I.cell x c hc
   refine wpAny_storeName_cell I.ok.kind hk hc z (fun h' hc' hs=>?_)
   obtain ⟨oc,hoc,hocd⟩:=id z
   refine h { s with heap:=h' } ⟨I.ok,I.os,I.bare,⟨fun b o e n hb hx=>?_,fun b o e n hb hx=>?_,I.base.free,fun b o e hx=>?_,I.base.tups,I.base.frzs,I.base.tbls⟩,⟨m,hn.sameBut hs (Im (cne x c hc)),fun j y v' e1 e2 e3=>?_⟩,fun y c' e=>?_,I.free,I.freeC,fun p hp=>?_,tracked ⟨oc,hoc,I.freeC x c hc⟩ hs,by simpa using I.len⟩ ⟨c,hs,.inr hc⟩
   · exact (hs.2 b (z_ (A_ (o_ e) (I.ok.cab x c hfn hc)))).trans (I.base.keep b o e n hb hx)
   · obtain ⟨sl,e1⟩:=I.base.slot b o e n hb hx
     exact ⟨sl,(hs.2 b (z_ (A_ (o_ e) (I.ok.cab x c hfn hc)))).trans e1⟩
   · obtain ⟨o',e1⟩:=I.base.there b o e hx
     exact ⟨o',(hs.2 b (z_ (A_ (o_ e) (I.ok.cab x c hfn hc)))).trans e1⟩
   · by_cases hj:j=i
     · subst hj
       rw [hi] at e1; cases e1
       rw [B_ hiσ] at e2
       cases e2
       exact ⟨u,r,.inr ⟨.inl hk,c,hc,hc'⟩⟩
     · rw [uk (Im hj)] at e2
       obtain ⟨u',r',q⟩:=hl j y v' e1 e2 e3
       refine ⟨u',r',?_⟩
       rcases q with q | ⟨k,c',e,z'⟩
       · exact .inl q
       · refine .inr ⟨k,c',e,z'.sameBut hs ?_⟩
         rintro rfl
         exact hj (jc hN e1 (I.ok.inj _ _ _ e hc ▸ hi))
   · by_cases hcc:c'=c
     · subst hcc; exact ⟨_,hc'⟩
     · obtain ⟨w2,z2⟩:=I.cell y c' e
       exact ⟨w2,z2.sameBut hs hcc⟩
   · obtain ⟨e,n,ne,nf,d⟩:=I.pin p hp
     refine ⟨(hs.2 p.1 ?_).trans e,n,ne,nf,d⟩
     intro q
     rw [q,hoc] at e
     have q':oc=p.2:=GL e
     exact d w' (by rw [← q']; exact hocd)
theorem fZ {M:Md} {A:u_} {E:Value→c_→Prop} {i:Nat} {x:Str} {v:V} {u:Value} {Q:Unit→c_→Prop} (I:Inv X pins σ H s) (hN:X.N.Nodup) (hi:X.N[i]?=some x) (hx:Loc X.env.scope x) (r:RelV v u)
 (h:∀ s',Inv X pins (σ.set i (some v)) H s'→Q () s') (hf:X.fn x=true∨X.env.scope.names.lookup x=some .local:=by first | exact .inl rfl | exact .inr rfl | assumption):m_ M A (storeName X.env x u) Q E s :=
 pj I hN hi hx r (fun s' I' _=>h s' I') hf
theorem Inv.call' {s':c_} {ch:List Addr} (I:Inv X pins σ H s) (ho:s'.os=s.os) (u:Un (frs X.stack) ch H H' s.heap s'.heap) (hok:HOk X.prog X.w H' s'.heap) (hg:Lm s'.gens)
 (hch:∀ b∈ch,(b∈X.ex∨X.s₀.heap.objs.size≤b)∧b≠X.env.locals∧(∀ x c,X.env.cells.lookup x=some c→c≠b)∧∀ p∈X.pn ++ pins,p.1≠b):Inv X pins σ H' s':=by
 obtain ⟨h',g',d',t',o'⟩:=s'
 have e:o'=s.os:=ho
 subst e
 exact I.call (g':=g') (t':=t') (d':=d') u hok hg hch
end
abbrev XK:=Value→Option Addr→Hp→Prop
abbrev St:=List (Option V)
abbrev VK:=V→Hp→Prop
abbrev TE:=St→Hp→VK→Prop
abbrev TT:=St→Hp→(Bool→Hp→Prop)→Prop
abbrev TA:=St→Hp→(List V→Hp→Prop)→Prop
structure mD where
 nx:St→Hp→Prop
 rt:VK
 bk:St→Hp→Prop:=fun _ _=>False
 ct:St→Hp→Prop:=fun _ _=>False
abbrev TS:=mD→St→Hp→Prop
def EP (X:Cx) (pins:List (Addr×Obj)) (σ:St) (Q:VK) (u:Value) (s':c_):Prop:=∃ v H',Inv X pins σ H' s'∧RelV v u∧Q v H'
def TP (X:Cx) (pins:List (Addr×Obj)) (σ:St) (Q:Bool→Hp→Prop) (b:Bool) (s':c_):Prop:=∃ H',Inv X pins σ H' s'∧Q b H'
def AP (X:Cx) (pins:List (Addr×Obj)) (σ:St) (Q:List V→Hp→Prop) (us:List Value) (s':c_):Prop:=∃ vs H',Inv X pins σ H' s'∧Vals vs us∧Q vs H'
def SP (X:Cx) (pins:List (Addr×Obj)) (D:mD) (f:Flow) (s':c_):Prop :=
 match f with
 | .next=>∃ σ' H',Inv X pins σ' H' s'∧D.nx σ' H'
 | .brk=>∃ σ' H',Inv X pins σ' H' s'∧D.bk σ' H'
 | .cont=>∃ σ' H',Inv X pins σ' H' s'∧D.ct σ' H'
 | .ret u=>∃ v σ' H',Inv X pins σ' H' s'∧RelV v u∧D.rt v H'
def PE (X:Cx) (e:Expr) (t:TE):Prop :=
 ∀ (pins:List (Addr×Obj)) (s:c_) (σ:St) (H:Hp) (Q:VK),Inv X pins σ H s→t σ H Q→m_ (pi X.prog X.w) X.A (eval e X.env) (EP X pins σ Q) X.xe s
def PT (X:Cx) (e:Expr) (t:TT):Prop :=
 ∀ (pins:List (Addr×Obj)) (s:c_) (σ:St) (H:Hp) (Q:Bool→Hp→Prop),Inv X pins σ H s→t σ H Q→m_ (pi X.prog X.w) X.A (isTrue e X.env (eval e X.env)) (TP X pins σ Q) X.xe s
def PW (X:Cx) (e:Expr) (t:TT):Prop :=
 ∀ (whole:Sem Value) (pins:List (Addr×Obj)) (s:c_) (σ:St) (H:Hp) (Q:Bool→Hp→Prop),Inv X pins σ H s→t σ H Q→m_ (pi X.prog X.w) X.A (isTrue e X.env whole) (TP X pins σ Q) X.xe s
theorem PW.pt {X:Cx} {e:Expr} {t:TT} (h:PW X e t):PT X e t:=h _
def PA (X:Cx) (es:List Expr) (t:TA):Prop :=
 ∀ (pos:Pos) (pins:List (Addr×Obj)) (s:c_) (σ:St) (H:Hp) (Q:List V→Hp→Prop),Inv X pins σ H s→t σ H Q→m_ (pi X.prog X.w) X.A (spliced (GA pos (e_ es X.env))) (AP X pins σ Q) X.xe s
def PS (X:Cx) (st:Stmt) (t:TS):Prop :=
 ∀ (pins:List (Addr×Obj)) (s:c_) (σ:St) (H:Hp) (D:mD),Inv X pins σ H s→t D σ H→m_ (pi X.prog X.w) X.A (exec st X.env) (SP X pins D) X.xe s
def PSs (X:Cx) (st:List Stmt) (t:TS):Prop :=
 ∀ (pins:List (Addr×Obj)) (s:c_) (σ:St) (H:Hp) (D:mD),Inv X pins σ H s→t D σ H→m_ (pi X.prog X.w) X.A (execs st X.env) (SP X pins D) X.xe s
theorem thn {α:Type} {t:Sem α} {Q Q':α→c_→Prop} {M:Md} {A:u_} {E:Value→c_→Prop} {s:c_} (h:m_ M A t Q E s) (hQ:∀ a s,Q a s→Q' a s):m_ M A t Q' E s:=GC h hQ fun _ _ x=>x
section
variable {X:Cx}
def vf (i:Nat):TE:=fun σ H Q=>∃ v,σ[i]?=some (some v)∧Q v H
def tC (v:V):TE:=fun _ H Q=>Q v H
theorem pk {i:Nat} {x:Str} {pos:Pos} (hN:X.N[i]?=some x) (hv:Vis X.env.scope x) (hd:(x == ("__debug__":Str))=false:=by decide) (hcd:(x == ("__classdict__":Str))=false:=by decide):PE X (.Name x pos) (vf i):=by
 intro pins s σ H Q I h
 obtain ⟨v,e,h⟩:=h
 obtain ⟨m,hn,hl⟩:=I.loc
 obtain ⟨u,r,l⟩:=hl i x v hN e hv
 have fin:EP X pins σ Q u s:=⟨v,H,I,r,h⟩
 rcases l with ⟨hk,hm⟩ | ⟨hk,c,hc,hcell⟩
 · exact wpAny_Name (wpAny_loadName_local I.ok.kind hk hn hm fin) hd
 · rcases hk with hk | hk
   · exact wpAny_Name (wpAny_loadName_cell I.ok.kind hk hc hcell fin) hd
   · exact wpAny_Name (wpAny_loadName_free I.ok.kind hk hc hcell fin hcd) hd
theorem y0 {i j pos}:PE X (.Constant (.int i) j pos) (tC (.int i)):=fun _ _ _ H _ I h=>wpAny_Constant_int ⟨.int i,H,I.tok _,⟨_,rfl⟩,h⟩
theorem CM {b j pos}:PE X (.Constant (.bool b) j pos) (tC (.bl b)):=fun _ _ _ H _ I h=>Constant_bool ⟨.bl b,H,I,rfl,h⟩
theorem y3 {j pos}:PE X (.Constant .none j pos) (tC .non):=fun _ _ _ H _ I h=>Constant_none ⟨.non,H,I,rfl,h⟩
theorem y4 {x j pos}:PE X (.Constant (.str x) j pos) (tC (.str x)):=fun _ _ _ H _ I h=>Calls.Constant_str ⟨.str x,H,I.tok _,⟨_,rfl⟩,h⟩
def Gl (X:Cx) (x:Str):Prop:=X.env.kindOf x=some .globalImplicit
theorem fm {E:Value→c_→Prop} {pins:List (Addr×Obj)} {s:c_} {σ:St} {H:Hp} {x:Str} {u:Value} {pos:Pos} {Q:Value→c_→Prop} (I:Inv X pins σ H s) (hg:Gl X x) (hm:X.mg x=some u) (h:Q u s)
 (hd:(x == ("__debug__":Str))=false:=by decide):m_ (pi X.prog X.w) X.A (eval (.Name x pos) X.env) Q E s :=
 LD I.ok.kind hg (Calls.loadGlobal_global (by rw [I.ok.glob]; exact I.mod.glob.keeps I.bk) hm h) hd
theorem eG {E:Value→c_→Prop} {pins:List (Addr×Obj)} {s:c_} {σ:St} {H:Hp} {x:Str} {u:Value} {pos:Pos} {Q:Value→c_→Prop} (I:Inv X pins σ H s) (hg:Gl X x) (hm:X.mg x=none) (hv:Hk x=some u) (h:Q u s)
 (hn:x≠"__name__":=by decide) (hd:(x == ("__debug__":Str))=false:=by decide):m_ (pi X.prog X.w) X.A (eval (.Name x pos) X.env) Q E s:=by
 obtain ⟨mb,h1,h2⟩:=I.mod.blt
 exact LD I.ok.kind hg (Calls.loadGlobal_builtin (by rw [I.ok.glob]; exact I.mod.glob.keeps I.bk) hm (by rw [I.ok.blt]; exact h1.keeps I.bk) ((h2 x hn).trans hv) h) hd
theorem lr {x:Str} {v:V} {u:Value} {pos:Pos} (hg:Gl X x) (hm:X.mg x=some u) (r:RelV v u) (hd:(x == ("__debug__":Str))=false:=by decide):PE X (.Name x pos) (tC v) :=
 fun _ _ _ H _ I h=>fm I hg hm ⟨v,H,I,r,h⟩ hd
theorem pp {x:Str} {v:V} {u:Value} {pos:Pos} (hg:Gl X x) (hm:X.mg x=none) (hv:Hk x=some u) (r:RelV v u) (hn:x≠"__name__":=by decide) (hd:(x == ("__debug__":Str))=false:=by decide):PE X (.Name x pos) (tC v) :=
 fun _ _ _ H _ I h=>eG I hg hm hv ⟨v,H,I,r,h⟩ hn hd
variable {a b:Expr} {ta tb:TE} {pos:Pos}
def tB (t:TE):TT:=fun σ H Q=>t σ H fun x H1=>∃ c,x=.bl c∧Q c H1
theorem y6 {e:Expr} {t:TE} (h:PE X e t) (he:∀ whole,isTrue e X.env whole=(do let v ← whole; standAt e.pos; OG [v] (truthy v)):=by intro _; rfl):PT X e (tB t):=by
 intro pins s σ H Q I hw
 refine isTrue_plain (thn (h pins s σ H _ I hw) fun v s1 ⟨x,H1,I1,r1,q1⟩=>?_) (he _)
 obtain ⟨d,rfl,q⟩:=q1
 cases r1
 exact H_ ⟨H1,I1,q⟩
variable {tA tB':TT} {rest:List Expr}
def FF (t u:TT):TT:=fun σ H Q=>t σ H fun c H1=>if c=true then u σ H1 Q else Q false H1
def tOr (t u:TT):TT:=fun σ H Q=>t σ H fun c H1=>if c=true then Q true H1 else u σ H1 Q
def FH (t:TT):TT:=fun σ H Q=>t σ H fun c H1=>Q (!c) H1
theorem wp (ha:PT X a tA):PW X (.BoolOp .And [a] pos) tA:=by
 intro wh pins s σ H Q I h
 refine isTrue_and (thn (ha pins s σ H Q I h) fun c s1 e=>?_)
 cases c with
 | true=>exact isTrue_and_nil e
 | false=>exact e
theorem y8 (ha:PT X a tA):PW X (.BoolOp .Or [a] pos) tA:=by
 intro wh pins s σ H Q I h
 refine isTrue_or (thn (ha pins s σ H Q I h) fun c s1 e=>?_)
 cases c with
 | false=>exact isTrue_or_nil e
 | true=>exact e
theorem y9 (ha:PT X a tA) (hb:PW X (.BoolOp .And (b :: rest) pos) tB'):PW X (.BoolOp .And (a :: b :: rest) pos) (FF tA tB'):=by
 intro wh pins s σ H Q I h
 refine isTrue_and (thn (ha pins s σ H _ I h) fun c s1 ⟨H1,I1,q1⟩=>?_)
 cases c with
 | true=>exact hb wh pins s1 σ H1 Q I1 q1
 | false=>exact ⟨H1,I1,q1⟩
theorem CN (ha:PT X a tA) (hb:PW X (.BoolOp .Or (b :: rest) pos) tB'):PW X (.BoolOp .Or (a :: b :: rest) pos) (tOr tA tB'):=by
 intro wh pins s σ H Q I h
 refine isTrue_or (thn (ha pins s σ H _ I h) fun c s1 ⟨H1,I1,q1⟩=>?_)
 cases c with
 | true=>exact ⟨H1,I1,q1⟩
 | false=>exact hb wh pins s1 σ H1 Q I1 q1
theorem za (ha:PT X a tA):PT X (.UnaryOp .Not a pos) (FH tA):=by
 intro pins s σ H Q I h
 exact isTrue_not (ha pins s σ H (fun c H1=>Q (!c) H1) I h)
def CO (ta tb:TE):TE:=fun σ H Q=>ta σ H fun x H1=>∃ c,x=.bl c∧if c=true then tb σ H1 Q else Q (.bl false) H1
def FJ (ta tb:TE):TE:=fun σ H Q=>ta σ H fun x H1=>∃ c,x=.bl c∧if c=true then Q (.bl true) H1 else tb σ H1 Q
def CP (ta:TE):TE:=fun σ H Q=>ta σ H fun x H1=>∃ c,x=.bl c∧Q (.bl (!c)) H1
theorem zb {op} {t:TE} (h:PE X a t):PE X (.BoolOp op [a] pos) t:=fun pins s σ H Q I hw=>BoolOp_one (h pins s σ H Q I hw)
theorem zc (ha:PE X a ta) (hb:PE X (.BoolOp .And (b :: rest) pos) tb):PE X (.BoolOp .And (a :: b :: rest) pos) (CO ta tb):=by
 intro pins s σ H Q I h
 refine BoolOp_and (thn (ha pins s σ H _ I h) fun v s1 ⟨x,H1,I1,r1,q1⟩=>?_)
 obtain ⟨c,rfl,q1⟩:=q1
 cases r1
 refine H_ ?_
 cases c with
 | true=>exact hb pins s1 σ H1 Q I1 q1
 | false=>exact ⟨.bl false,H1,I1,rfl,q1⟩
theorem CQ (ha:PE X a ta) (hb:PE X (.BoolOp .Or (b :: rest) pos) tb):PE X (.BoolOp .Or (a :: b :: rest) pos) (FJ ta tb):=by
 intro pins s σ H Q I h
 refine BoolOp_or (thn (ha pins s σ H _ I h) fun v s1 ⟨x,H1,I1,r1,q1⟩=>?_)
 obtain ⟨c,rfl,q1⟩:=q1
 cases r1
 refine H_ ?_
 cases c with
 | false=>exact hb pins s1 σ H1 Q I1 q1
 | true=>exact ⟨.bl true,H1,I1,rfl,q1⟩
theorem zd (ha:PE X a ta):PE X (.UnaryOp .Not a pos) (CP ta):=by
 intro pins s σ H Q I h
 refine UnaryOp_ (thn (ha pins s σ H _ I h) fun v s1 ⟨x,H1,I1,r1,q1⟩=>?_)
 obtain ⟨c,rfl,q1⟩:=q1
 cases r1
 exact not_of (H_ ⟨.bl (!c),H1,I1,rfl,q1⟩)
def tIf (t:TT) (ta tb:TE):TE:=fun σ H Q=>t σ H fun c H1=>if c=true then ta σ H1 Q else tb σ H1 Q
theorem sO {c:Expr} (hc:PT X c tA) (ha:PE X a ta) (hb:PE X b tb):PE X (.IfExp c a b pos) (tIf tA ta tb):=by
 intro pins s σ H Q I h
 refine wpAny_IfExp (thn (hc pins s σ H _ I h) fun d s1 ⟨H1,I1,q1⟩=>?_)
 cases d with
 | true=>exact ha pins s1 σ H1 Q I1 q1
 | false=>exact hb pins s1 σ H1 Q I1 q1
end
def SqL (K:ck) (H:Hp) (a:Addr) (xs:List V):Prop :=
 Rd H a (.lst xs) ∨
  ∃ (o:Obj) (its:Array Value) (n:Nat),K.lookup a=some o∧o.cls=.type "list"∧o.dict=none∧o.data=.seq its n∧its.size≤sizeLine∧Vals xs its.toList
def SqT (K:ck) (H:Hp) (a:Addr) (xs:List V):Prop :=
 Rd H a (.tup xs) ∨
  ∃ (o:Obj) (its:Array Value) (n:Nat),K.lookup a=some o∧o.cls=.type "tuple"∧o.data=.seq its n∧its.size≤sizeLine∧Vals xs its.toList
def FK:Value→Option V
 | .none=>some .non
 | .bool b=>some (.bl b)
 | .int i _=>some (.int i)
 | .str x _=>some (.str x)
 | .bytes b _=>some (.byt b)
 | .float b _=>some (.flt b)
 | .ref a=>some (.ref a)
 | .type n=>some (.ty n)
 | _=>none
theorem RelV.abs {x:V} {u:Value} (r:RelV x u):FK u=some x:=by
 cases x with
 | non=>cases r; rfl
 | bl _=>cases r; rfl
 | int _=>obtain ⟨t,rfl⟩:=r; rfl
 | str _=>obtain ⟨t,rfl⟩:=r; rfl
 | byt _=>obtain ⟨t,rfl⟩:=r; rfl
 | flt _=>obtain ⟨t,rfl⟩:=r; rfl
 | ref _=>cases r; rfl
 | ty _=>cases r; rfl
theorem RelV.inj {x y:V} {u:Value} (r:RelV x u) (q:RelV y u):x=y:=GL (r.abs.symm.trans q.abs)
theorem Vals.inj:∀ {xs ys:List V} {us:List Value},Vals xs us→Vals ys us→xs=ys
 | _,_,_,.nil,.nil=>rfl
 | _,_,_,.cons r t,.cons r' t'=>by rw [r.inj r',Vals.inj t t']
section
variable {X:Cx} {pins:List (Addr×Obj)} {σ:St} {H:Hp} {s:c_} {a:Addr} {xs ys:List V}
theorem SqL.of {K:ck} (h:H a=some (.lst xs)):SqL K H a xs:=.inl (.inl h)
theorem SqT.of {K:ck} (h:H a=some (.tup xs)):SqT K H a xs:=.inl (.inl h)
theorem Inv.list (I:Inv X pins σ H s) (h:SqL X.K H a xs):∃ its:List Value,Vals xs its∧PlainL s.heap a its.toArray∧xs.length≤sizeLine:=by
 rcases h with h | ⟨o,its,n,hk,hc,hd,hs,hz,r⟩
 · obtain ⟨z,its,n,r,e⟩:=h.ok I.hok
   exact ⟨its,r,⟨_,n,e,rfl,rfl,rfl⟩,z⟩
 · refine ⟨its.toList,r,⟨o,n,I.kIn a o hk,hc,hd,by simpa using hs⟩,?_⟩
   have e:=r.length
   simp only [G0] at e
   omega
theorem Inv.tuple (I:Inv X pins σ H s) (h:SqT X.K H a xs):∃ its:List Value,Vals xs its∧OX s.heap a its.toArray∧xs.length≤sizeLine:=by
 rcases h with h | ⟨o,its,n,hk,hc,hs,hz,r⟩
 · obtain ⟨z,its,r,p⟩:=h.ok I.hok
   exact ⟨its,r,p,z⟩
 · refine ⟨its.toList,r,⟨o,I.kIn a o hk,hc,n,by simpa using hs⟩,?_⟩
   have e:=r.length
   simp only [G0] at e
   omega
theorem Inv.list_inj (I:Inv X pins σ H s) (h:SqL X.K H a xs) (h':SqL X.K H a ys):xs=ys:=by
 obtain ⟨its,r,⟨o,n,e,_,_,d⟩,_⟩:=I.list h
 obtain ⟨its',r',⟨o',n',e',_,_,d'⟩,_⟩:=I.list h'
 rw [e] at e'; cases e'
 rw [d] at d'
 injection d' with d1 _
 have:its=its':=by simpa using congrArg Array.toList d1
 subst this
 exact r.inj r'
theorem Inv.tuple_inj (I:Inv X pins σ H s) (h:SqT X.K H a xs) (h':SqT X.K H a ys):xs=ys:=by
 obtain ⟨its,r,⟨o,e,_,n,d⟩,_⟩:=I.tuple h
 obtain ⟨its',r',⟨o',e',_,n',d'⟩,_⟩:=I.tuple h'
 rw [e] at e'; cases e'
 rw [d] at d'
 injection d' with d1 _
 have:its=its':=by simpa using congrArg Array.toList d1
 subst this
 exact r.inj r'
end
abbrev Cx.wish (X:Cx) (E:Value→c_→Prop):Cx:={ X with xe:=E }
abbrev Cx.nox (X:Cx):Cx:=X.wish fun _ _=>False
theorem Cx.Ok.wish {X:Cx} (ok:X.Ok) (E:Value→c_→Prop):(X.wish E).Ok :=
 ⟨ok.mod,ok.kind,ok.glob,ok.blt,ok.above,ok.inj,ok.has,ok.cab,ok.hd,ok.frames,ok.stk,ok.exf,ok.bs,ok.bsz,ok.noex,ok.exfs,ok.funs,ok.frf⟩
theorem Cx.Ok.unwish {X:Cx} {E:Value→c_→Prop} (ok:(X.wish E).Ok):X.Ok :=
 ⟨ok.mod,ok.kind,ok.glob,ok.blt,ok.above,ok.inj,ok.has,ok.cab,ok.hd,ok.frames,ok.stk,ok.exf,ok.bs,ok.bsz,ok.noex,ok.exfs,ok.funs,ok.frf⟩
section
variable {X:Cx} {pins:List (Addr×Obj)} {σ:St} {H:Hp} {s:c_} {E:Value→c_→Prop}
theorem Inv.wish (I:Inv X pins σ H s) (E:Value→c_→Prop):Inv (X.wish E) pins σ H s:=⟨I.ok.wish E,I.os,I.bare,I.base,I.loc,I.cell,I.free,I.freeC,I.pin,I.hok,I.len⟩
theorem Inv.unwish (I:Inv (X.wish E) pins σ H s):Inv X pins σ H s:=⟨I.ok.unwish,I.os,I.bare,I.base,I.loc,I.cell,I.free,I.freeC,I.pin,I.hok,I.len⟩
theorem SP.unwish {D:mD} {f:Flow} {s':c_} (h:SP (X.wish E) pins D f s'):SP X pins D f s':=by
 cases f with
 | next=>obtain ⟨σ',H',I,q⟩:=h; exact ⟨σ',H',I.unwish,q⟩
 | brk=>obtain ⟨σ',H',I,q⟩:=h; exact ⟨σ',H',I.unwish,q⟩
 | cont=>obtain ⟨σ',H',I,q⟩:=h; exact ⟨σ',H',I.unwish,q⟩
 | ret u=>obtain ⟨v,σ',H',I,r,q⟩:=h; exact ⟨v,σ',H',I.unwish,r,q⟩
theorem PE.nox {e:Expr} {t:TE} (h:PE X.nox e t):PE X e t:=fun pins s σ H Q I hw =>
 GC (h pins s σ H Q (I.wish _) hw) (fun _ _ ⟨v,H',I',r,q⟩=>⟨v,H',I'.unwish,r,q⟩) fun _ _ z=>Gz z
theorem PT.nox {e:Expr} {t:TT} (h:PT X.nox e t):PT X e t:=fun pins s σ H Q I hw =>
 GC (h pins s σ H Q (I.wish _) hw) (fun _ _ ⟨H',I',q⟩=>⟨H',I'.unwish,q⟩) fun _ _ z=>Gz z
theorem PSs.nox {st:List Stmt} {t:TS} (h:PSs X.nox st t):PSs X st t:=fun pins s σ H D I hw =>
 GC (h pins s σ H D (I.wish _) hw) (fun _ _ q=>q.unwish) fun _ _ z=>Gz z
end
section
variable {X:Cx} {st:Stmt} {rest:List Stmt} {t u:TS} {e:Expr} {te:TE} {pos:Pos}
def CS:TS:=fun D σ H=>D.nx σ H
def FL (t u:TS):TS:=fun D σ H=>t { D with nx:=u D } σ H
theorem pq:PSs X [] CS:=fun _ _ σ H _ I h=>MP ⟨σ,H,I,h⟩
theorem cR (h1:PS X st t) (h2:PSs X rest u):PSs X (st :: rest) (FL t u):=by
 intro pins s σ H D I h
 refine wpAny_execs_cons (thn (h1 pins s σ H { D with nx:=u D } I h) fun f s1 q=>?_)
 cases f with
 | next =>
  obtain ⟨σ',H',I',q⟩:=q
  exact h2 pins s1 σ' H' D I' q
 | ret v=>exact q
 | brk=>exact q
 | cont=>exact q
theorem ls (h1:PS X st t):PSs X [st] t:=by
 intro pins s σ H D I h
 refine wpAny_execs_cons (thn (h1 pins s σ H D I h) fun f s1 q=>?_)
 cases f with
 | next=>exact MP q
 | ret v=>exact q
 | brk=>exact q
 | cont=>exact q
theorem Inv.quiet {pins:List (Addr×Obj)} {σ:St} {H:Hp} {s:c_} (I:Inv X pins σ H s):interactive X.env=false:=by simp [interactive,I.ok.kind]
def CU (te:TE):TS:=fun D σ H=>te σ H fun _ H1=>D.nx σ H1
theorem pr (he:PE X e te) (hs:GW e none pos.line X.env=pure false:=by rfl):PS X (.Expr e pos) (CU te):=by
 intro pins s σ H D I h
 exact wpAny_Expr_any (thn (he pins s σ H _ I h) fun v s1 ⟨x,H1,I1,r1,q1⟩=>⟨σ,H1,I1,q1⟩) I.quiet hs
def FM (te:TE):TS:=fun D σ H=>te σ H D.rt
theorem vg (he:PE X e te):PS X (.Return (some e) pos) (FM te):=by
 intro pins s σ H D I h
 exact wpAny_Return_some (thn (he pins s σ H _ I h) fun v s1 ⟨x,H1,I1,r1,q1⟩=>⟨x,σ,H1,I1,r1,q1⟩)
def FN (c:TT) (t u:TS):TS:=fun D σ H=>c σ H fun b H1=>if b=true then t D σ H1 else u D σ H1
theorem wq {c:Expr} {a b:List Stmt} {tc:TT} (hc:PT X c tc) (ha:PSs X a t) (hb:PSs X b u):PS X (.If c a b pos) (FN tc t u):=by
 intro pins s σ H D I h
 refine wpAny_If (thn (hc pins s σ H _ I h) fun d s1 ⟨H1,I1,q1⟩=>?_)
 cases d with
 | true=>exact ha pins s1 σ H1 D I1 q1
 | false=>exact hb pins s1 σ H1 D I1 q1
end
abbrev TG:=V→St→Hp→(St→Hp→Prop)→Prop
abbrev TGs:=List V→St→Hp→(St→Hp→Prop)→Prop
def PG (X:Cx) (target:Expr) (t:TG):Prop :=
 ∀ (pins:List (Addr×Obj)) (s:c_) (σ:St) (H:Hp) (v:V) (u:Value) (Q:St→Hp→Prop),Inv X pins σ H s→RelV v u→t v σ H Q →
  m_ (pi X.prog X.w) X.A (Kr target X.env u) (fun _ s'=>∃ σ' H',Inv X pins σ' H' s'∧Q σ' H') X.xe s
def PGs (X:Cx) (ts:List Expr) (t:TGs):Prop :=
 ∀ (pins:List (Addr×Obj)) (s:c_) (σ:St) (H:Hp) (vs:List V) (us:List Value) (Q:St→Hp→Prop),Inv X pins σ H s→Vals vs us→t vs σ H Q →
  m_ (pi X.prog X.w) X.A (assignInOrder ((GD ts X.env).map (·.2)) us) (fun _ s'=>∃ σ' H',Inv X pins σ' H' s'∧Q σ' H') X.xe s
section
variable {X:Cx} {pos:Pos}
def pv (i:Nat):TG:=fun v σ H Q=>Q (σ.set i (some v)) H
theorem cT {i:Nat} {x:Str} (hN:X.N.Nodup) (hi:X.N[i]?=some x) (hx:Loc X.env.scope x) (hf:X.fn x=true∨X.env.scope.names.lookup x=some .local:=by first | exact .inl rfl | exact .inr rfl | assumption):PG X (.Name x pos) (pv i):=by
 intro pins s σ H v u Q I r h
 exact wpAny_assign_Name (fZ I hN hi hx r (fun s' I'=>⟨_,H,I',h⟩) hf)
def FQ:TGs:=fun vs σ H Q=>vs=[]∧Q σ H
def CV (t:TG) (u:TGs):TGs:=fun vs σ H Q=>∃ v r,vs=v :: r∧t v σ H fun σ' H'=>u r σ' H' Q
theorem pA:PGs X [] FQ:=by
 intro pins s σ H vs us Q I r h
 obtain ⟨e,h⟩:=h
 subst e
 cases r
 exact assignInOrder_nil ⟨σ,H,I,h⟩
theorem gc {e:Expr} {es:List Expr} {t:TG} {u:TGs} (h1:PG X e t) (h2:PGs X es u)
 (hs:(GD (e :: es) X.env).map (·.2)=Kr e X.env :: (GD es X.env).map (·.2):=by rfl):PGs X (e :: es) (CV t u):=by
 intro pins s σ H vs us Q I r h
 obtain ⟨v,vr,e1,h⟩:=h
 subst e1
 cases r with
 | cons r rr =>
  rw [hs]
  refine assignInOrder_cons (thn (h1 pins s σ H _ _ _ I r h) fun _ s1 ⟨σ1,H1,I1,q1⟩=>?_)
  exact h2 pins s1 σ1 H1 _ _ Q I1 rr q1
def FU (K:ck) (n:Nat) (t:TGs):TG:=fun v σ H Q=>∃ a xs,v=.ref a∧SqT K H a xs∧xs.length=n∧t xs σ H Q
theorem vh {es:List Expr} {k:Nat} {t:TGs} {n:Nat} (hc:X.calm=true) (h:PGs X es t)
 (hn:(GD es X.env).length=n:=by rfl) (hst:(GD es X.env).findIdx? (·.1)=none:=by rfl):PG X (.Tuple es k pos) (FU X.K n t):=by
 intro pins s σ H v u Q I r hw
 obtain ⟨a,xs,e1,hq,hl,hw⟩:=hw
 subst e1
 cases r
 obtain ⟨its,rv,ht,hz⟩:=I.tuple hq
 refine assign_Tuple_tuple (I.ok.hd hc) ht (by simp [hn,← hl,rv.length]) hst fun h' hx=>?_
 have I1:Inv X pins σ H { s with heap:=h' }:=I.kept (t':=s.toks) fun b o e=>hx b o (z_ (o_ e)) e
 exact h pins _ σ H xs _ Q I1 (by simpa using rv) hw
def FX (te:TE) (g:TG):TS:=fun D σ H=>te σ H fun x H1=>g x σ H1 D.nx
theorem ip {i:Nat} {x:Str} {e:Expr} {te:TE} {pos':Pos} (hN:X.N.Nodup) (hi:X.N[i]?=some x) (hx:Loc X.env.scope x) (he:PE X e te) (hs:GW e (some (.Name x pos')) pos.line X.env=pure false:=by rfl) (hf:X.fn x=true∨X.env.scope.names.lookup x=some .local:=by first | exact .inl rfl | exact .inr rfl | assumption) :
 PS X (.Assign [.Name x pos'] e pos) (FX te (pv i)):=by
 intro pins s σ H D I h
 refine wpAny_Assign_Name (thn (he pins s σ H _ I h) fun v s1 ⟨y,H1,I1,r1,q1⟩=>?_) hs
 exact fZ I1 hN hi hx r1 (fun s2 I2=>⟨_,H1,I2,q1⟩) hf
end
section
variable {X:Cx} {pos:Pos}
end
structure It where
 go:Nat→Hp→Prop
 yld:Nat→Hp→V→Hp→Prop
 stop:Nat→Hp→Prop
def oo (X:Cx) (pins:List (Addr×Obj)) (H:Hp) (b:Addr):Prop :=
 H b=none∧b≠X.env.locals∧b ∉ X.fs∧(b∈X.ex∨X.s₀.heap.objs.size≤b)∧(∀ x c,X.env.cells.lookup x=some c→c≠b)∧∀ p∈X.pn ++ pins,p.1≠b
theorem Inv.fpOk {X:Cx} {pins:List (Addr×Obj)} {σ:St} {H H':Hp} {s:c_} {b:Addr} (I:Inv X pins σ H s) (hb:s.heap.objs.size≤b) (hn:H' b=none):oo X pins H' b:=by
 refine ⟨hn,Ln (A_ I.lt hb),I.nofs hb,.inr (GG I.sz hb),fun x c e z=>?_,fun p hp z=>?_⟩
 · obtain ⟨v,q⟩:=I.cell x c e
   exact absurd (A_ q.lt (by rw [z]; exact hb)) (Hj _)
 · exact absurd (A_ (o_ (I.pin p hp).1) (by rw [z]; exact hb)) (Hj _)
structure vi (P:Program) (w:x_) (K:ck) (tg:Expr) (J:It) (fp:List Addr) (it:Addr) (tn:Nat→Heap→Prop):Prop where
 mem:it∈fp
 obj:∀ i h,tn i h→∀ b∈fp,∃ o,h.get? b=some o∧∀ v,o.data≠.cell v
 keep:∀ i h h',tn i h→(∀ b∈fp,∀ o,h.get? b=some o→h'.get? b=some o)→tn i h'
 item:∀ (X:Cx),X.prog=P→X.w=w→X.K=K→X.calm=true→∀ (i:Nat) (pins:List (Addr×Obj)) (s:c_) (σ:St) (H:Hp) (E:Value→c_→Prop),Inv X pins σ H s→(∀ b∈fp,oo X pins H b)→tn i s.heap→J.go i H →
  m_ (pi P w) X.A (Lb (.ref it)) (fun r s1=>∃ u,r=some u ∧
   m_ (pi P w) X.A (Ld tg (.ref it) u) (fun _ s2=>∃ x H',Inv X pins σ H' s2∧RelV x u∧J.yld i H x H'∧tn (i + 1) s2.heap∧∀ b∈fp,H' b=none) E s1) E s
 done:∀ (X:Cx),X.prog=P→X.w=w→X.K=K→X.calm=true→∀ (i:Nat) (pins:List (Addr×Obj)) (s:c_) (σ:St) (H:Hp) (E:Value→c_→Prop),Inv X pins σ H s→(∀ b∈fp,oo X pins H b)→tn i s.heap→J.stop i H →
  m_ (pi P w) X.A (Lb (.ref it)) (fun r s1=>r=none∧Inv X pins σ H s1) E s
 self:∀ (A:u_) (i:Nat) (s:c_) (Q:Value→c_→Prop) (E:Value→c_→Prop),tn i s.heap→Q (.ref it) s→m_ (pi P w) A (pyIter (.ref it)) Q E s
abbrev TI:=St→Hp→(It→Hp→Prop)→Prop
def PIE (X:Cx) (pins:List (Addr×Obj)) (σ:St) (tg:Expr) (R:It→Hp→Prop) (itv:Value) (s2:c_):Prop :=
 ∃ (it:Addr) (fp:List Addr) (tn:Nat→Heap→Prop) (J:It) (H':Hp),itv=.ref it∧Inv X pins σ H' s2∧vi X.prog X.w X.K tg J fp it tn∧tn 0 s2.heap∧(∀ b∈fp,oo X pins H' b)∧R J H'
def PI (X:Cx) (tg iter:Expr) (wi:TI):Prop :=
 ∀ (pins:List (Addr×Obj)) (s:c_) (σ:St) (H:Hp) (R:It→Hp→Prop),Inv X pins σ H s→wi σ H R →
  m_ (pi X.prog X.w) X.A (eval iter X.env) (fun v s1=>m_ (pi X.prog X.w) X.A (pyIter v) (PIE X pins σ tg R) X.xe s1) X.xe s
theorem sP {M:Md} {A:u_} {E:Value→c_→Prop} {s:c_} {tg:Expr} {it:Addr} {u:Value} {o:Obj} {n:String} {vs:Array Value} {Q:Unit→c_→Prop} (ho:s.heap.get? it=some o) (hc:o.cls=.type n) (hd:o.data=.fields vs)
 (hn:["enumerate","zip","dict_itemiterator","dict_reverseitemiterator","odict_iterator","itertools.zip_longest","itertools.pairwise"].contains n=false) (hQ:Q () s):m_ M A (Ld tg (.ref it) u) Q E s:=by
 unfold Ld
 cases tg <;> first
  | exact d_ hQ
  | (cases u <;> first
      | exact d_ hQ
      | (refine b_ (wpAny_load ho ?_)
         rw [hc,hd]
         show m_ M A (if (["enumerate","zip","dict_itemiterator","dict_reverseitemiterator","odict_iterator","itertools.zip_longest","itertools.pairwise"].contains n && vs[0]? == some (KU _))=true then _ else _) Q E s
         rw [if_neg (by intro h; rw [hn,Bool.false_and] at h; cases h)]
         exact d_ hQ))
def Itl (K:ck) (a:Addr):It :=
 ⟨fun i H=>∃ xs x,SqL K H a xs∧xs[i]?=some x,fun i H x H'=>H'=H∧∀ xs,SqL K H a xs→xs[i]?=some x,fun i H=>∃ xs,SqL K H a xs∧xs.length≤i⟩
def Itt (K:ck) (a:Addr):It :=
 ⟨fun i H=>∃ xs x,SqT K H a xs∧xs[i]?=some x,fun i H x H'=>H'=H∧∀ xs,SqT K H a xs→xs[i]?=some x,fun i H=>∃ xs,SqT K H a xs∧xs.length≤i⟩
def Itr (lo:Int) (n:Nat):It:=⟨fun i _=>i < n,fun i H x H'=>H'=H∧x=.int (lo + i),fun i _=>n≤i⟩
theorem pB {P:Program} {w:x_} {K:ck} {tg:Expr} (a it:Addr):vi P w K tg (Itl K a) [it] it (fun i h=>h.IsListIter it a i) where
 mem:=by simp
 obj:=fun i h st b hb=>by
  have e:b=it:=by simpa using hb
  subst e
  obtain ⟨o,e,c,d⟩:=st
  exact ⟨o,e,fun v z=>by rw [d] at z; cases z⟩
 keep:=fun i h h' st k=>st.at fun o e=>k it (by simp) o e
 item:=by
  intro X hP hw hK hc i pins s σ H E I hf st hg
  subst hP hw hK
  obtain ⟨xs,x,hq,hx⟩:=hg
  obtain ⟨its,rv,p,hz⟩:=I.list hq
  obtain ⟨u,hu,ru⟩:=rv.get hx
  obtain ⟨f0,f1,f2,f3,f4,f5⟩:=hf it (by simp)
  refine wpAny_pyNext_list_item st p.isList (x:=u) (by simpa using hu) fun h' st' sb=>?_
  have I1:Inv X pins σ H { s with heap:=h' }:=I.turned (t':=s.toks) (fun b o hb e=>(sb.2 b hb).trans e) f0 f1 f3 f4 f5
  obtain ⟨o,e,c,d⟩:=id st'
  exact ⟨u,rfl,sP (s:={ s with heap:=h' }) e c d (by decide) ⟨x,H,I1,ru,⟨rfl,fun ys hy=>by rw [I.list_inj hy hq]; exact hx⟩,st',fun b hb=>(hf b hb).1⟩⟩
 done:=by
  intro X hP hw hK hc i pins s σ H E I hf st hg
  subst hP hw hK
  obtain ⟨xs,hq,hx⟩:=hg
  obtain ⟨its,rv,p,hz⟩:=I.list hq
  obtain ⟨f0,f1,f2,f3,f4,f5⟩:=hf it (by simp)
  have hl:=rv.length
  exact wpAny_pyNext_list_end (I.ok.hd hc) st p.isList (by simp; omega) fun h' eb=>⟨rfl,I.turned (t':=s.toks) (fun b o hb e=>eb b o hb e) f0 f1 f3 f4 f5⟩
 self:=fun _ _ _ _ _ st h=>wpAny_pyIter_listiter st h
theorem iq {P:Program} {w:x_} {K:ck} {tg:Expr} (a it:Addr):vi P w K tg (Itt K a) [it] it (fun i h=>h.IsTupleIter it a i) where
 mem:=by simp
 obj:=fun i h st b hb=>by
  have e:b=it:=by simpa using hb
  subst e
  obtain ⟨o,e,c,d⟩:=st
  exact ⟨o,e,fun v z=>by rw [d] at z; cases z⟩
 keep:=fun i h h' st k=>st.at fun o e=>k it (by simp) o e
 item:=by
  intro X hP hw hK hc i pins s σ H E I hf st hg
  subst hP hw hK
  obtain ⟨xs,x,hq,hx⟩:=hg
  obtain ⟨its,rv,p,hz⟩:=I.tuple hq
  obtain ⟨u,hu,ru⟩:=rv.get hx
  obtain ⟨f0,f1,f2,f3,f4,f5⟩:=hf it (by simp)
  refine wpAny_pyNext_tuple_item st (show s.heap.IsTuple a its.toArray from p) (x:=u) (by simpa using hu) fun h' st' sb=>?_
  have I1:Inv X pins σ H { s with heap:=h' }:=I.turned (t':=s.toks) (fun b o hb e=>(sb.2 b hb).trans e) f0 f1 f3 f4 f5
  obtain ⟨o,e,c,d⟩:=id st'
  exact ⟨u,rfl,sP (s:={ s with heap:=h' }) e c d (by decide) ⟨x,H,I1,ru,⟨rfl,fun ys hy=>by rw [I.tuple_inj hy hq]; exact hx⟩,st',fun b hb=>(hf b hb).1⟩⟩
 done:=by
  intro X hP hw hK hc i pins s σ H E I hf st hg
  subst hP hw hK
  obtain ⟨xs,hq,hx⟩:=hg
  obtain ⟨its,rv,p,hz⟩:=I.tuple hq
  obtain ⟨f0,f1,f2,f3,f4,f5⟩:=hf it (by simp)
  have hl:=rv.length
  exact wpAny_pyNext_tuple_end (I.ok.hd hc) st (show s.heap.IsTuple a its.toArray from p) (by simp; omega) fun h' eb=>⟨rfl,I.turned (t':=s.toks) (fun b o hb e=>eb b o hb e) f0 f1 f3 f4 f5⟩
 self:=fun _ _ _ _ _ st h=>wpAny_pyIter_tupleiter st h
theorem oq {P:Program} {w:x_} {K:ck} {tg:Expr} (it:Addr) (lo:Int) (n:Nat):vi P w K tg (Itr lo n) [it] it (fun i h=>IsRangeIter h it (lo + (i:Nat) * 1) ((n:Int) - (i:Nat)) 1) where
 mem:=by simp
 obj:=fun i h st b hb=>by
  have e:b=it:=by simpa using hb
  subst e
  exact ⟨_,st,fun v z=>by
   have z':Oz _=Data.cell v:=z
   cases z'⟩
 keep:=fun i h h' st k=>k it (by simp) _ st
 item:=by
  intro X hP hw hK hc i pins s σ H E I hf st hg
  subst hP hw hK
  obtain ⟨f0,f1,f2,f3,f4,f5⟩:=hf it (by simp)
  have W:=Walks.range (prog:=X.prog) (w:=X.w) (I.ok.hd hc) it lo 1 n
  refine W.item i s _ _ hg st fun v h' tk hv st' kk=>?_
  obtain ⟨t,rfl⟩:=hv
  have I1:Inv X pins σ H { s with heap:=h',toks:=tk }:=I.turned (fun b o hb e=>kk b o (by simpa using hb) e) f0 f1 f3 f4 f5
  refine ⟨_,rfl,sP (s:={ s with heap:=h',toks:=tk }) (n:="range_iterator") st' rfl rfl (by decide) ⟨.int (lo + i),H,I1,⟨t,?_⟩,⟨rfl,rfl⟩,st',fun b hb=>(hf b hb).1⟩⟩
  rw [Int.mul_one]
 done:=by
  intro X hP hw hK hc i pins s σ H E I hf st hg
  subst hP hw hK
  obtain ⟨f0,f1,f2,f3,f4,f5⟩:=hf it (by simp)
  exact wpAny_pyNext_range_end (I.ok.hd hc) st (by have:n≤i:=hg; omega) fun h' eb=>⟨rfl,I.turned (t':=s.toks) (fun b o hb e=>eb b o hb e) f0 f1 f3 f4 f5⟩
 self:=fun _ _ _ _ _ st h=>wpAny_pyIter_rangeiter st h
section
variable {X:Cx} {tg:Expr}
def FY (K:ck) (tl:TE):TI:=fun σ H R=>tl σ H fun x H1=>∃ a,x=.ref a∧(∃ xs,SqT K H1 a xs)∧R (Itt K a) H1
theorem ze {l:Expr} {tl:TE} (hl:PE X l tl):PI X tg l (FY X.K tl):=by
 intro pins s σ H R I h
 refine thn (hl pins s σ H _ I h) fun v s1 ⟨x,H1,I1,r1,q1⟩=>?_
 obtain ⟨a,e,⟨xs,hq⟩,q⟩:=q1
 subst e
 cases r1
 obtain ⟨its,rv,p,hz⟩:=I1.tuple hq
 refine J_ (show s1.heap.IsTuple a its.toArray from p) ?_
 refine ⟨s1.heap.objs.size,[s1.heap.objs.size],_,_,H1,rfl,I1.kept (t':=s1.toks) fun b o e=>f_ _ e,iq a _,⟨_,r_ _ rfl,rfl,rfl⟩,fun b hb=>?_,q⟩
 have e:b=s1.heap.objs.size:=by simpa using hb
 subst e
 exact I1.fpOk (l_ _) (I1.hok.fresh (l_ _))
theorem mE {pins:List (Addr×Obj)} {σ:St} {H:Hp} {s:c_} {R:It→Hp→Prop} {E:Value→c_→Prop} {lo hi:Int} {t u v:Tok} {tk:Nat} (I:Inv X pins σ H s) (h1:-(2 ^ 62)≤lo) (h2:lo < 2 ^ 62) (h3:-(2 ^ 62)≤hi) (h4:hi < 2 ^ 62)
 (q:R (Itr lo (hi - lo).toNat) H):m_ (pi X.prog X.w) X.A (pyIter (.ref s.heap.objs.size)) (PIE X pins σ tg R) E { s with heap:=s.heap.push { cls:=.type "range",data:=.fields #[.int lo t,.int hi u,.int 1 v] },toks:=tk }:=by
 refine wpAny_pyIter_range (IsRange.new ..) (small_one h1 h2 h3 h4) ?_
 have I1:Inv X pins σ H { s with heap:=s.heap.push { cls:=.type "range",data:=.fields #[.int lo t,.int hi u,.int 1 v] },toks:=tk }:=I.kept fun b o e=>f_ _ e
 refine ⟨(s.heap.push { cls:=.type "range",data:=.fields #[.int lo t,.int hi u,.int 1 v] }).objs.size,[(s.heap.push { cls:=.type "range",data:=.fields #[.int lo t,.int hi u,.int 1 v] }).objs.size],_,_,H,rfl,
  I1.kept (t':=tk) fun b o e=>f_ _ e,oq _ lo (hi - lo).toNat,?_,fun b hb=>?_,q⟩
 · have e1:lo + ((0:Nat):Int) * 1=lo:=by simp
   have e2:(((hi - lo).toNat:Nat):Int) - ((0:Nat):Int)=Builtin.Range.rangeSize lo hi 1:=by rw [rangeSize_one]; split <;> omega
   show IsRangeIter _ _ (lo + ((0:Nat):Int) * 1) ((((hi - lo).toNat:Nat):Int) - ((0:Nat):Int)) 1
   rw [e1,e2]
   exact r_ _ rfl
 · have e:b=(s.heap.push { cls:=.type "range",data:=.fields #[.int lo t,.int hi u,.int 1 v] }).objs.size:=by simpa using hb
   subst e
   exact I1.fpOk (l_ _) (I1.hok.fresh (l_ _))
def CW (ta:TA):TI:=fun σ H R=>ta σ H fun vs H1=>∃ j:Int,vs=[.int j]∧-(2 ^ 62)≤j∧j < 2 ^ 62∧R (Itr 0 j.toNat) H1
def CY (ta:TA):TI:=fun σ H R=>ta σ H fun vs H1=>∃ i j:Int,vs=[.int i,.int j]∧(-(2 ^ 62)≤i∧i < 2 ^ 62∧-(2 ^ 62)≤j∧j < 2 ^ 62)∧R (Itr i (j - i).toNat) H1
theorem pC {a:Expr} {ta:TA} {p pos:Pos} (hg:Gl X "range") (hm:X.mg "range"=none) (ha:PA X [a] ta) (hs:e_ [a] X.env=[(false,eval a X.env)]:=by rfl):PI X tg (.Call (.Name "range" p) [a] [] pos) (CW ta):=by
 intro pins s σ H R I h
 refine Call_ (eG I hg hm boot_range (HE (thn (ha pos pins s σ H _ I h) fun us s1 ⟨vs,H1,I1,r1,q1⟩=>?_) hs rfl))
 obtain ⟨j,e,q1,q2,q⟩:=q1
 subst e
 cases r1 with
 | cons r rr =>
  cases rr
  obtain ⟨t,rfl⟩:=r
  exact call_range_1 (mE I1 (by omega) (by omega) q1 q2 (by simpa using q))
theorem pD {a b:Expr} {ta:TA} {p pos:Pos} (hg:Gl X "range") (hm:X.mg "range"=none) (ha:PA X [a,b] ta) (hs:e_ [a,b] X.env=[(false,eval a X.env),(false,eval b X.env)]:=by rfl) (hs2:e_ [b] X.env=[(false,eval b X.env)]:=by rfl) :
 PI X tg (.Call (.Name "range" p) [a,b] [] pos) (CY ta):=by
 intro pins s σ H R I h
 refine Call_ (eG I hg hm boot_range (HE (thn (ha pos pins s σ H _ I h) fun us s1 ⟨vs,H1,I1,r1,q1⟩=>?_) (by rw [hs,hs2]) (by rw [hs2]; rfl)))
 obtain ⟨i,j,e,⟨q1,q2,q3,q4⟩,q⟩:=q1
 subst e
 cases r1 with
 | cons r rr =>
  cases rr with
  | cons r' rr =>
   cases rr
   obtain ⟨t,rfl⟩:=r
   obtain ⟨t',rfl⟩:=r'
   exact call_range_2 (mE I1 q1 q2 q3 q4 q)
def FZ (wi:TI) (g:TG) (tb:TS):TS:=fun D σ H=>wi σ H fun J H1=>∃ W:Nat→Nat→St→Hp→Prop,(∃ m,W 0 m σ H1)∧∀ i m σ H,W i m σ H →
 (J.stop i H∧D.nx σ H)∨(J.go i H∧∃ N:St→Hp→Prop,(∀ σ' H',N σ' H'→∃ m',m' < m∧W (i + 1) m' σ' H')∧∀ x H',J.yld i H x H'→g x σ H' fun σ2 H2=>tb { D with nx:=N,ct:=N,bk:=D.nx } σ2 H2)
def bL (fp:List Addr) (h:Heap):List (Addr×Obj):=fp.filterMap fun b=>(h.get? b).map fun o=>(b,o)
theorem bA {fp:List Addr} {h:Heap} {b:Addr} {o:Obj} (hb:b∈fp) (e:h.get? b=some o):(b,o)∈bL fp h:=HU.mpr ⟨b,hb,by rw [e]; rfl⟩
theorem gp {fp:List Addr} {h:Heap} {p:Addr×Obj} (hp:p∈bL fp h):p.1∈fp∧h.get? p.1=some p.2:=by
 obtain ⟨b,hb,e⟩:=HU.mp hp
 cases q:h.get? b with
 | none=>rw [q] at e; cases e
 | some o =>
  rw [q] at e
  have e':(b,o)=p:=GL e
  subst e'
  exact ⟨hb,q⟩
theorem Inv.pinned {pins:List (Addr×Obj)} {σ:St} {H:Hp} {s:c_} {fp:List Addr} (I:Inv X pins σ H s) (hf:∀ b∈fp,oo X pins H b) (ho:∀ b∈fp,∃ o,s.heap.get? b=some o∧∀ v,o.data≠.cell v):Inv X (pins ++ bL fp s.heap) σ H s :=
 I.pins_of fun p hp=>(F_.mp hp).elim (fun z=>I.pin p (s_ _ z)) fun z=>by
  obtain ⟨hb,e⟩:=gp z
  obtain ⟨f0,f1,f2,_⟩:=hf p.1 hb
  obtain ⟨o,e',d⟩:=ho p.1 hb
  rw [e] at e'; cases e'
  exact ⟨e,f0,f1,f2,d⟩
theorem Inv.unpinned {pins pl:List (Addr×Obj)} {σ:St} {H:Hp} {s:c_} (I:Inv X (pins ++ pl) σ H s):Inv X pins σ H s:=I.pins_of fun p hp=>I.pin p (s_ _ (Gp _ hp))
theorem mF {iter:Expr} {body:List Stmt} {wi:TI} {g:TG} {tb:TS} {pos:Pos} (hp:Kk (pi X.prog X.w) X.A X.env X.xe) (hc:X.calm=true) (hi:PI X tg iter wi) (hg:PG X tg g) (hb:PSs X body tb)
 (hs:∀ x,Gs iter X.env x=pure x:=by intro _; rfl):PS X (.For tg iter body [] pos) (FZ wi g tb):=by
 intro pins s σ H D I h
 refine wpAny_For (thn (hi pins s σ H _ I h) fun v s1 h1=>thn h1 fun itv s2 h2=>?_) hs
 obtain ⟨it,fp,tn,J,H2,e,I2,T,st2,f2,W,⟨m0,w0⟩,turn⟩:=h2
 subst e
 have stat:∀ {H':Hp},(∀ b∈fp,H' b=none)→∀ b∈fp,oo X pins H' b:=fun hn b hb=>⟨hn b hb,(f2 b hb).2⟩
 refine codeAny_forLoop_any (fun n s'=>∃ i σ' H',Inv X pins σ' H' s'∧tn i s'.heap∧(∀ b∈fp,H' b=none)∧W i n σ' H') ?_ m0 ⟨0,σ,H2,I2,st2,fun b hb=>(f2 b hb).1,w0⟩
 rintro n s3 ⟨i,σ3,H3,I3,st3,fr3,w3⟩
 rcases turn i n σ3 H3 w3 with ⟨stop,qn⟩ | ⟨go,N,hN,step⟩
 · refine JW hp (thn (T.done X rfl rfl rfl hc i pins s3 σ3 H3 X.xe I3 (stat fr3) st3 stop) fun r s4 ⟨hr,I4⟩=>?_)
   subst hr
   exact MP ⟨σ3,H3,I4,qn⟩
 · refine JW hp (thn (T.item X rfl rfl rfl hc i pins s3 σ3 H3 X.xe I3 (stat fr3) st3 go) fun r s4 ⟨u,hr,h4⟩=>?_)
   subst hr
   refine JW hp (thn h4 fun _ s5 ⟨x,H5,I5,r5,y5,st5,fr5⟩=>?_)
   have I5':=I5.pinned (stat fr5) (T.obj _ _ st5)
   refine JW hp (thn (hg _ s5 σ3 H5 x u _ I5' r5 (step x H5 y5)) fun _ s6 ⟨σ6,H6,I6,q6⟩=>?_)
   refine JW hp (thn (hb _ s6 σ6 H6 _ I6 q6) fun f s7 q7=>?_)
   have again:∀ {σ7:St} {H7:Hp},Inv X (pins ++ bL fp s5.heap) σ7 H7 s7→N σ7 H7→∃ m,m < n∧∃ i σ' H',Inv X pins σ' H' s7∧tn i s7.heap∧(∀ b∈fp,H' b=none)∧W i m σ' H':=fun {σ7 H7} I7 n7=>by
    obtain ⟨m',hm,w7⟩:=hN σ7 H7 n7
    refine ⟨m',hm,i + 1,σ7,H7,I7.unpinned,T.keep _ _ _ st5 fun b hb o e=>(I7.pin (b,o) (s_ _ (s_ _ (bA hb e)))).1,fun b hb=>?_,w7⟩
    obtain ⟨o,e,d⟩:=T.obj _ _ st5 b hb
    exact (I7.pin (b,o) (s_ _ (s_ _ (bA hb e)))).2.1
   cases f with
   | next=>obtain ⟨σ7,H7,I7,n7⟩:=q7; exact again I7 n7
   | cont=>obtain ⟨σ7,H7,I7,n7⟩:=q7; exact again I7 n7
   | brk=>obtain ⟨σ7,H7,I7,q7⟩:=q7; exact ⟨σ7,H7,I7.unpinned,q7⟩
   | ret v=>obtain ⟨x7,σ7,H7,I7,r7,q7⟩:=q7; exact ⟨x7,σ7,H7,I7.unpinned,r7,q7⟩
end
abbrev R2:=V→V→Hp→VK→Prop
def OpR (X:Cx) (f:Value→Value→Sem Value) (r:R2):Prop :=
 ∀ (pins:List (Addr×Obj)) (s:c_) (σ:St) (H:Hp) (x y:V) (v u:Value) (Q:VK),Inv X pins σ H s→RelV x v→RelV y u→r x y H Q →
  m_ (pi X.prog X.w) X.A (f v u) (EP X pins σ Q) X.xe s
def UnR (X:Cx) (f:Value→Sem Value) (r:V→Hp→VK→Prop):Prop :=
 ∀ (pins:List (Addr×Obj)) (s:c_) (σ:St) (H:Hp) (x:V) (v:Value) (Q:VK),Inv X pins σ H s→RelV x v→r x H Q →
  m_ (pi X.prog X.w) X.A (f v) (EP X pins σ Q) X.xe s
def CallR (X:Cx) (f:Value) (r:List V→Hp→VK→Prop):Prop :=
 ∀ (pins:List (Addr×Obj)) (s:c_) (σ:St) (H:Hp) (xs:List V) (us:List Value) (Q:VK),Inv X pins σ H s→Vals xs us→r xs H Q →
  m_ (pi X.prog X.w) X.A (call f us) (EP X pins σ Q) X.xe s
def tOp (r:R2) (ta tb:TE):TE:=fun σ H Q=>ta σ H fun x H1=>tb σ H1 fun y H2=>r x y H2 Q
def tUn (r:V→Hp→VK→Prop) (ta:TE):TE:=fun σ H Q=>ta σ H fun x H1=>r x H1 Q
def rI (C:Int→Int→Prop) (g:Int→Int→V):R2:=fun x y H Q=>∃ i j,x=.int i∧y=.int j∧C i j∧Q (g i j) H
def rI0 (g:Int→Int→V):R2:=fun x y H Q=>∃ i j,x=.int i∧y=.int j∧Q (g i j) H
def rU (g:Int→V):V→Hp→VK→Prop:=fun x H Q=>∃ i,x=.int i∧Q (g i) H
section
variable {X:Cx} {a b c:Expr} {ta tb tc:TE} {pos:Pos}
theorem CZ (ha:PE X a ta) (hb:PE X b tb) {pins:List (Addr×Obj)} {s:c_} {σ:St} {H:Hp} {R:V→V→Hp→Prop} (I:Inv X pins σ H s)
 (h:ta σ H fun x H1=>tb σ H1 fun y H2=>R x y H2) {Q:Value→c_→Prop} {f:Value→Value→Sem Value}
 (hf:∀ v u s2 x y H2,Inv X pins σ H2 s2→RelV x v→RelV y u→R x y H2→m_ (pi X.prog X.w) X.A (f v u) Q X.xe s2) :
 m_ (pi X.prog X.w) X.A (eval a X.env) (fun v s₁=>m_ (pi X.prog X.w) X.A (eval b X.env) (fun u s₂=>m_ (pi X.prog X.w) X.A (f v u) Q X.xe s₂) X.xe s₁) X.xe s:=by
 refine thn (ha pins s σ H _ I h) fun v s1 ⟨x,H1,I1,r1,q1⟩=>?_
 refine thn (hb pins s1 σ H1 _ I1 q1) fun u s2 ⟨y,H2,I2,r2,q2⟩=>?_
 exact hf v u s2 x y H2 I2 r1 r2 q2
theorem C0 {op:Operator} {r:R2} (ho:OpR X (HQ op) r) (ha:PE X a ta) (hb:PE X b tb):PE X (.BinOp a op b pos) (tOp r ta tb):=by
 intro pins s σ H Q I h
 exact wpAny_BinOp (CZ ha hb I h fun v u s2 x y H2 I2 rx ry q=>ho pins s2 σ H2 x y v u Q I2 rx ry q)
theorem C1 {op:UnaryOp} {r:V→Hp→VK→Prop} (ho:UnR X (unaryOp op) r) (ha:PE X a ta):PE X (.UnaryOp op a pos) (tUn r ta):=by
 intro pins s σ H Q I h
 exact UnaryOp_ (thn (ha pins s σ H _ I h) fun v s1 ⟨x,H1,I1,r1,q1⟩=>ho pins s1 σ H1 x v Q I1 r1 q1)
theorem opI {f:Value→Value→Sem Value} {C:Int→Int→Prop} {g:Int→Int→Int}
 (rule:∀ (i j:Int) (t u:Tok) (s:c_) (Q:Value→c_→Prop) (E:Value→c_→Prop),C i j→Q (.int (g i j) s.toks) { s with toks:=s.toks + 1 }→m_ (pi X.prog X.w) X.A (f (.int i t) (.int j u)) Q E s) :
 OpR X f (rI C fun i j=>.int (g i j)):=by
 intro pins s σ H x y v u Q I rx ry h
 obtain ⟨i,j,rfl,rfl,hc,q⟩:=h
 obtain ⟨t,rfl⟩:=rx
 obtain ⟨t',rfl⟩:=ry
 exact rule i j t t' s _ _ hc ⟨.int (g i j),H,I.tok _,⟨_,rfl⟩,q⟩
theorem ES {f:Value→Value→Sem Value} {g:Int→Int→Int}
 (rule:∀ (i j:Int) (t u:Tok) (s:c_) (Q:Value→c_→Prop) (E:Value→c_→Prop),Q (.int (g i j) s.toks) { s with toks:=s.toks + 1 }→m_ (pi X.prog X.w) X.A (f (.int i t) (.int j u)) Q E s) :
 OpR X f (rI0 fun i j=>.int (g i j)):=by
 intro pins s σ H x y v u Q I rx ry h
 obtain ⟨i,j,rfl,rfl,q⟩:=h
 obtain ⟨t,rfl⟩:=rx
 obtain ⟨t',rfl⟩:=ry
 exact rule i j t t' s _ _ ⟨.int (g i j),H,I.tok _,⟨_,rfl⟩,q⟩
theorem C3 {f:Value→Value→Sem Value} {g:Int→Int→Bool}
 (rule:∀ (i j:Int) (t u:Tok) (s:c_) (Q:Value→c_→Prop) (E:Value→c_→Prop),Q (.bool (g i j)) s→m_ (pi X.prog X.w) X.A (f (.int i t) (.int j u)) Q E s) :
 OpR X f (rI0 fun i j=>.bl (g i j)):=by
 intro pins s σ H x y v u Q I rx ry h
 obtain ⟨i,j,rfl,rfl,q⟩:=h
 obtain ⟨t,rfl⟩:=rx
 obtain ⟨t',rfl⟩:=ry
 exact rule i j t t' s _ _ ⟨.bl (g i j),H,I,rfl,q⟩
def ET (i j:Int):Prop:=0 < j∧j < 1073741824
def CMul (i j:Int):Prop:=(-(2 ^ 64) < i∧i < 2 ^ 64)∨(-(2 ^ 64) < j∧j < 2 ^ 64)
theorem CMul.ok {i j:Int} (h:CMul i j):IntMulOk i j:=by
 rcases h with ⟨h1,h2⟩ | ⟨h1,h2⟩
 · exact .of_left (intBits_le_64 h1 h2)
 · exact .of_right (intBits_le_64 h1 h2)
theorem op_add:OpR X (HQ .Add) (rI0 fun i j=>.int (i + j)):=ES fun _ _ _ _ _ _ _ q=>add_int q
theorem zg:OpR X (HQ .Sub) (rI0 fun i j=>.int (i - j)):=ES fun _ _ _ _ _ _ _ q=>sub_int q
theorem vj:OpR X (HQ .Mult) (rI CMul fun i j=>.int (i * j)):=opI fun _ _ _ _ _ _ _ hc q=>mul_int q hc.ok
theorem wt:OpR X (HQ .FloorDiv) (rI ET fun i j=>.int (i / j)):=opI fun i j _ _ _ _ _ hc q=>by
 have h1:(0:Int) < j:=hc.1
 have h2:j < 1073741824:=hc.2
 exact floordiv_int (by omega) (by rw [Int.fdiv_eq_ediv_of_nonneg i (by omega)]; exact q) (.inl (PyProof.noPylong_small (by omega)))
theorem zh:OpR X (HQ .Mod) (rI (fun _ j=>0 < j) fun i j=>.int (i % j)):=opI fun i j _ _ _ _ _ hc q=>by
 have h1:(0:Int) < j:=hc
 exact mod_int' (by omega) (by rw [Int.fmod_eq_emod_of_nonneg i (by omega)]; exact q)
theorem unI {f:Value→Sem Value} {g:Int→Int}
 (rule:∀ (i:Int) (t:Tok) (s:c_) (Q:Value→c_→Prop) (E:Value→c_→Prop),Q (.int (g i) s.toks) { s with toks:=s.toks + 1 }→m_ (pi X.prog X.w) X.A (f (.int i t)) Q E s) :
 UnR X f (rU fun i=>.int (g i)):=by
 intro pins s σ H x v Q I rx h
 obtain ⟨i,rfl,q⟩:=h
 obtain ⟨t,rfl⟩:=rx
 exact rule i t s _ _ ⟨.int (g i),H,I.tok _,⟨_,rfl⟩,q⟩
theorem zi:UnR X (unaryOp .USub) (rU fun i=>.int (-i)):=unI fun _ _ _ _ _ q=>neg_int q
end
def C4:V→V→Bool
 | .non,.non=>true | .non,.int _=>true | .int _,.non=>true | .non,.bl _=>true | .bl _,.non=>true | .non,.str _=>true | .str _,.non=>true
 | .int _,.int _=>true | .bl _,.bl _=>true | .str _,.str _=>true | .byt _,.byt _=>true
 | .int _,.str _=>true | .str _,.int _=>true | .bl _,.str _=>true | .str _,.bl _=>true
 | _,_=>false
def rEq:R2:=fun x y H Q=>C4 x y=true∧Q (.bl (decide (x=y))) H
def rNe:R2:=fun x y H Q=>C4 x y=true∧Q (.bl (!decide (x=y))) H
theorem lu {i j:Int}:decide (V.int i=V.int j)=(i == j):=by
 rw [G2]
 simp
theorem pE {i j:Bool}:decide (V.bl i=V.bl j)=(i == j):=by
 rw [G2]
 simp
theorem lv {i j:Str}:decide (V.str i=V.str j)=(i == j):=by
 rw [G2]
 simp
theorem pF {i j:Array UInt8}:decide (V.byt i=V.byt j)=(i.toList == j.toList):=by
 rw [G2]
 cases i
 cases j
 simp
section
variable {X:Cx} {a b c:Expr} {ta tb tc:TE} {pos:Pos}
theorem aI {pins:List (Addr×Obj)} {σ:St} {H:Hp} {s:c_} {Q:VK} {k k':Bool} (I:Inv X pins σ H s) (q:Q (.bl k) H) (e:k=k'):EP X pins σ Q (.bool k') s:=by
 subst e
 exact ⟨.bl k,H,I,rfl,q⟩
theorem op_eq:OpR X (Gx .Eq) rEq:=by
 intro pins s σ H x y v u Q I rx ry h
 obtain ⟨hs,q⟩:=h
 cases x with
 | non =>
  cases rx
  cases y with
  | non=>cases ry; exact PySem.EqNone.eq_none_none (aI I q (by simp))
  | bl j=>cases ry; exact PySem.EqNone.eq_none_bool (aI I q (by simp))
  | int j=>obtain ⟨t',rfl⟩:=ry; exact PySem.EqNone.eq_none_int (aI I q (by simp))
  | str j=>obtain ⟨t',rfl⟩:=ry; exact PySem.EqNone.eq_none_str (aI I q (by simp))
  | _=>exact absurd (show false=true from hs) on
 | bl i =>
  cases rx
  cases y with
  | non=>cases ry; exact PySem.EqNone.eq_bool_none (aI I q (by simp))
  | bl j=>cases ry; exact eq_bool (aI I q pE)
  | str j=>obtain ⟨t',rfl⟩:=ry; exact PySem.EqMixed.eq_bool_str (aI I q (by simp))
  | _=>exact absurd (show false=true from hs) on
 | int i =>
  obtain ⟨t,rfl⟩:=rx
  cases y with
  | non=>cases ry; exact PySem.EqNone.eq_int_none (aI I q (by simp))
  | int j=>obtain ⟨t',rfl⟩:=ry; exact eq_int (aI I q lu)
  | str j=>obtain ⟨t',rfl⟩:=ry; exact PySem.EqMixed.eq_int_str (aI I q (by simp))
  | _=>exact absurd (show false=true from hs) on
 | str i =>
  obtain ⟨t,rfl⟩:=rx
  cases y with
  | non=>cases ry; exact PySem.EqNone.eq_str_none (aI I q (by simp))
  | bl j=>cases ry; exact PySem.EqMixed.eq_str_bool (aI I q (by simp))
  | int j=>obtain ⟨t',rfl⟩:=ry; exact PySem.EqMixed.eq_str_int (aI I q (by simp))
  | str j=>obtain ⟨t',rfl⟩:=ry; exact eq_str (aI I q lv)
  | _=>exact absurd (show false=true from hs) on
 | byt i =>
  obtain ⟨t,rfl⟩:=rx
  cases y with
  | byt j=>obtain ⟨t',rfl⟩:=ry; exact PySem.W.eq_bytes (aI I q pF)
  | _=>exact absurd (show false=true from hs) on
 | _=>cases y <;> exact absurd (show false=true from hs) on
theorem op_ne:OpR X (Gx .NotEq) rNe:=by
 intro pins s σ H x y v u Q I rx ry h
 obtain ⟨hs,q⟩:=h
 cases x with
 | non =>
  cases rx
  cases y with
  | non=>cases ry; exact PySem.EqNone.ne_none_none (aI I q (by simp))
  | bl j=>cases ry; exact PySem.EqNone.ne_none_bool (aI I q (by simp))
  | int j=>obtain ⟨t',rfl⟩:=ry; exact PySem.EqNone.ne_none_int (aI I q (by simp))
  | str j=>obtain ⟨t',rfl⟩:=ry; exact PySem.EqNone.ne_none_str (aI I q (by simp))
  | _=>exact absurd (show false=true from hs) on
 | bl i =>
  cases rx
  cases y with
  | non=>cases ry; exact PySem.EqNone.ne_bool_none (aI I q (by simp))
  | bl j=>cases ry; exact ne_bool (aI I q (congrArg not pE))
  | str j=>obtain ⟨t',rfl⟩:=ry; exact PySem.EqMixed.ne_bool_str (aI I q (by simp))
  | _=>exact absurd (show false=true from hs) on
 | int i =>
  obtain ⟨t,rfl⟩:=rx
  cases y with
  | non=>cases ry; exact PySem.EqNone.ne_int_none (aI I q (by simp))
  | int j=>obtain ⟨t',rfl⟩:=ry; exact ne_int (aI I q (congrArg not lu))
  | str j=>obtain ⟨t',rfl⟩:=ry; exact PySem.EqMixed.ne_int_str (aI I q (by simp))
  | _=>exact absurd (show false=true from hs) on
 | str i =>
  obtain ⟨t,rfl⟩:=rx
  cases y with
  | non=>cases ry; exact PySem.EqNone.ne_str_none (aI I q (by simp))
  | bl j=>cases ry; exact PySem.EqMixed.ne_str_bool (aI I q (by simp))
  | int j=>obtain ⟨t',rfl⟩:=ry; exact PySem.EqMixed.ne_str_int (aI I q (by simp))
  | str j=>obtain ⟨t',rfl⟩:=ry; exact ne_str (aI I q (congrArg not lv))
  | _=>exact absurd (show false=true from hs) on
 | byt i =>
  obtain ⟨t,rfl⟩:=rx
  cases y with
  | byt j=>obtain ⟨t',rfl⟩:=ry; exact PySem.W.ne_bytes (aI I q (congrArg not pF))
  | _=>exact absurd (show false=true from hs) on
 | _=>cases y <;> exact absurd (show false=true from hs) on
theorem op_lt:OpR X (Gx .Lt) (rI0 fun i j=>.bl (decide (i < j))):=C3 fun _ _ _ _ _ _ _ q=>lt_int q
theorem op_le:OpR X (Gx .LtE) (rI0 fun i j=>.bl (decide (i≤j))):=C3 fun _ _ _ _ _ _ _ q=>le_int q
theorem C7:OpR X (Gx .Gt) (rI0 fun i j=>.bl (decide (j < i))):=C3 fun _ _ _ _ _ _ _ q=>gt_int q
theorem pG:OpR X (Gx .Lt) (fun x y H Q=>∃ i j,x=.str i∧y=.str j∧Q (.bl (decide (i.cps.toList < j.cps.toList))) H):=by
 intro pins s σ H x y v u Q I rx ry h
 obtain ⟨i,j,rfl,rfl,q⟩:=h
 obtain ⟨t,rfl⟩:=rx
 obtain ⟨t',rfl⟩:=ry
 exact lt_str (aI I q rfl)
theorem op_in_str:OpR X (Gx .In) (fun x y H Q=>∃ i j,x=.str i∧y=.str j∧Q (.bl (!(Hb j i 0 j.length 1).isEmpty)) H):=by
 intro pins s σ H x y v u Q I rx ry h
 obtain ⟨i,j,rfl,rfl,q⟩:=h
 obtain ⟨t,rfl⟩:=rx
 obtain ⟨t',rfl⟩:=ry
 exact in_str (aI I q rfl)
theorem zj:OpR X (Gx .Is) (fun x y H Q=>y=.non∧Q (.bl (decide (x=.non))) H):=by
 intro pins s σ H x y v u Q I rx ry h
 obtain ⟨rfl,q⟩:=h
 cases ry
 refine is_none_gen (aI I q ?_)
 cases x <;> first
  | (cases rx; rfl)
  | (obtain ⟨t,rfl⟩:=rx; rfl)
theorem OpR.or {f:Value→Value→Sem Value} {r r':R2} (h:OpR X f r) (h':OpR X f r'):OpR X f (fun x y H Q=>r x y H Q∨r' x y H Q):=by
 intro pins s σ H x y v u Q I rx ry q
 rcases q with q | q
 · exact h pins s σ H x y v u Q I rx ry q
 · exact h' pins s σ H x y v u Q I rx ry q
theorem EU (b:Expr) {op:CmpOp} (h:op≠.In:=by decide) (h2:op≠.NotIn:=by decide):GJ op b=false:=by
 have e1:(op == CmpOp.In)=false:=by cases op <;> first | rfl | exact absurd rfl h
 have e2:(op == CmpOp.NotIn)=false:=by cases op <;> first | rfl | exact absurd rfl h2
 cases b <;> simp [GJ,e1,e2]
theorem wu {op:CmpOp} {r:R2} (ho:OpR X (Gx op) r) (ha:PE X a ta) (hb:PE X b tb) (hm:GJ op b=false):PE X (.Compare a [op] [b] pos) (tOp r ta tb):=by
 intro pins s σ H Q I h
 exact wpAny_Compare1 (CZ ha hb I h fun v u s2 x y H2 I2 rx ry q=>ho pins s2 σ H2 x y v u Q I2 rx ry q) hm
def C8 (t:TE):TT:=fun σ H Q=>t σ H fun x H'=>∃ k,x=.bl k∧Q k H'
theorem wv {op:CmpOp} {r:R2} (ho:OpR X (Gx op) r) (ha:PE X a ta) (hb:PE X b tb) (hm:GJ op b=false):PT X (.Compare a [op] [b] pos) (C8 (tOp r ta tb)):=by
 intro pins s σ H Q I h
 refine wpAny_isTrue_Compare1 (thn (ha pins s σ H _ I h) fun v s1 ⟨x,H1,I1,r1,q1⟩=>thn (hb pins s1 σ H1 _ I1 q1) fun u s2 ⟨y,H2,I2,r2,q2⟩ =>
  thn (ho pins s2 σ H2 x y v u _ I2 r1 r2 q2) fun c s3 ⟨z,H3,I3,r3,k,e,q3⟩=>?_) hm
 subst e
 cases r3
 exact H_ ⟨H3,I3,q3⟩
theorem mG:(sizeLine:Nat) < 2 ^ 63:=by rw [IV]; decide
theorem op_add_str:OpR X (HQ .Add) (fun x y H Q=>∃ i j,x=.str i∧y=.str j∧i.length + j.length≤sizeLine∧Q (.str (i ++ j)) H):=by
 intro pins s σ H x y v u Q I rx ry h
 obtain ⟨i,j,rfl,rfl,hz,q⟩:=h
 obtain ⟨t,rfl⟩:=rx
 obtain ⟨t',rfl⟩:=ry
 exact add_str (fun t' tk=>⟨.str (i ++ j),H,I.tok _,⟨_,rfl⟩,q⟩) hz
theorem fq {x:V} {us:List Value} (r:Vals [x] us):∃ u,us=[u]∧RelV x u:=by
 cases r with
 | cons r1 r2=>cases r2; exact ⟨_,rfl,r1⟩
theorem zk {x y:V} {us:List Value} (r:Vals [x,y] us):∃ u w',us=[u,w']∧RelV x u∧RelV y w':=by
 cases r with
 | cons r1 r2 =>
  cases r2 with
  | cons r3 r4=>cases r4; exact ⟨_,_,rfl,r1,r3⟩
theorem jO:CallR X (.type "str") (fun xs H Q=>∃ i,xs=[.int i]∧i.natAbs.log2 < 1920∧Q (.str (toString i)) H):=by
 intro pins s σ H xs us Q I r h
 obtain ⟨i,rfl,hz,q⟩:=h
 obtain ⟨u,rfl,t,rfl⟩:=fq r
 exact PySem.P.str_of_int hz ⟨.str _,H,I.tok _,⟨_,rfl⟩,q⟩
def F0 (K:ck) (x:V) (H:Hp) (n:Nat):Prop :=
 match x with
 | .str y=>y.length≤sizeLine∧n=y.length
 | .byt y=>y.size≤sizeLine∧n=y.size
 | .ref p=>(∃ xs,SqL K H p xs∧n=xs.length)∨∃ xs,SqT K H p xs∧n=xs.length
 | _=>False
theorem sQ:CallR X (.builtin "len") (fun xs H Q=>∃ x n,xs=[x]∧F0 X.K x H n∧Q (.int n) H):=by
 intro pins s σ H xs us Q I r h
 obtain ⟨x,n,rfl,e,q⟩:=h
 obtain ⟨u,rfl,rx⟩:=fq r
 have hl:=mG
 have hs:sizeLine=16777216:=IV
 cases x with
 | str y =>
  obtain ⟨t,rfl⟩:=rx
  obtain ⟨hy,e'⟩:y.length≤sizeLine∧n=y.length:=e
  subst e'
  exact len_str (by omega) ⟨.int _,H,I.tok _,⟨_,rfl⟩,q⟩
 | byt y =>
  obtain ⟨t,rfl⟩:=rx
  obtain ⟨hy,e'⟩:y.size≤sizeLine∧n=y.size:=e
  subst e'
  exact PySem.W.len_bytes (by omega) ⟨.int _,H,I.tok _,⟨_,rfl⟩,q⟩
 | ref p =>
  cases rx
  have e':(∃ xs,SqL X.K H p xs∧n=xs.length)∨∃ xs,SqT X.K H p xs∧n=xs.length:=e
  rcases e' with ⟨xs,hx,e'⟩ | ⟨xs,hx,e'⟩
  · subst e'
    obtain ⟨its,r',pl,hz⟩:=I.list hx
    have hlen:=r'.length
    exact Calls.call_len_list pl.isList (by simp only [y_]; omega) ⟨.int xs.length,H,I.tok _,⟨_,by simp only [y_]; rw [hlen]⟩,q⟩
  · subst e'
    obtain ⟨its,r',pl,hz⟩:=I.tuple hx
    have hlen:=r'.length
    exact len_tuple pl (by simp only [y_]; omega) ⟨.int xs.length,H,I.tok _,⟨_,by simp only [y_]; rw [hlen]⟩,q⟩
 | _=>exact (show False from e).elim
end
structure ObjM (h:Heap) (x dx C:Addr) (mA:Str→Option Value):Prop where
 obj:h.get? x=some (Iu C dx)
 ns:h.Ns1 dx mA
 ne:dx≠x
theorem pH {h:Heap} {dx:Addr} {mA:Str→Option Value} (n:h.Ns1 dx mA):∃ od,h.get? dx=some od∧∀ name,M4 name od=some (mA name):=by
 obtain ⟨o,es,ep,ho,hd,hk,_,hm⟩:=n
 refine ⟨o,ho,fun name=>?_⟩
 have e:=hm name
 unfold nsFind findBy at e
 rw [← Array.find?_toList] at e
 unfold M4
 rw [hd]
 dsimp only
 split
 · rename_i y q
   rw [q] at e
   exact congrArg some e
 · rename_i q
   rw [q] at e
   have a:es.toList.any (·.refKey)=false:=by
    rw [List.any_eq_false]
    intro y hy
    obtain ⟨z,t,hkey⟩:=hk y (GU.mp hy)
    simp [DictEntry.refKey,hkey]
   have a':¬ es.toList.any (·.refKey)=true:=by rw [a]; exact on
   rw [if_neg a']
   exact congrArg some e
theorem ObjM.look {h:Heap} {x dx C:Addr} {mA:Str→Option Value} (I:ObjM h x dx C mA):∃ od,PySem.W.InstAt h x (Iu C dx) C (some od)∧∀ name,M4 name od=some (mA name) :=
 let ⟨od,ho,hl⟩:=pH I.ns
 ⟨od,⟨I.obj,rfl,rfl,ho⟩,hl⟩
section
variable {prog:Program} {w:x_} {A:u_} {E:Value→c_→Prop} {s:c_} {K:ck} {x dx C f:Addr} {mA:Str→Option Value} {name:Str} {v:Value}
end
section
variable {P:Program} {w:x_} {H H':Hp} {h h':Heap} {a C dx:Addr} {fs fs':List (Str×V)}
theorem ww (hok:HOk P w H h) (e:H a=some (.ins C dx fs)):∃ mA,ObjM h a dx C mA∧(∀ f,RelO (fs.lookup f) (mA f))∧PySem.Within mA (fs.map (·.1))∧fs.length≤1000∧H dx=some (.own a):=by
 obtain ⟨d,z,ne,ob,mA,n,r,q⟩:=(show ObjOk P w H h a (.ins C dx fs) from hok a _ e)
 exact ⟨mA,⟨ob,n,ne⟩,r,q,z,d⟩
end
structure Cls (K:ck) (C:Addr):Prop where
 pg:Og K C O5=true
 hd:PySem.W.hasDictIn K C=true
 po:PySem.W.plainOver K C=true
 sa:Ks K (.ref C) "__setattr__"=some (some (.builtin "object.__setattr__"))
theorem Cls.get {K:ck} {C:Addr} (c:Cls K C) (f:Str):Og K C f=true:=c.pg
structure Con (K:ck) (C:Addr) (f:Str) (v:V) (u:Value):Prop where
 at_:Ks K (.ref C) f=some (some u)
 rel:RelV v u
 get:NZ K u "__get__"=some none
 cp:PySem.W.copiedNames.contains f=false
structure Gj (K:ck) (C:Addr) (m:Str) (f:Addr):Prop where
 at_:Ks K (.ref C) m=some (some (.ref f))
 fn:O8 K (.ref f)=true
 kp:Hv K (.ref f)=true
section
variable {X:Cx} {pins:List (Addr×Obj)} {σ:St} {H:Hp} {s:c_} {a C dx:Addr} {fs:List (Str×V)} {f:Str} {v:V} {A:u_} {E:Value→c_→Prop}
theorem Inv.made (I:Inv X pins σ H s):Inv X pins σ (upd (upd H s.heap.objs.size (.own (s.heap.objs.size + 1))) (s.heap.objs.size + 1) (.ins C s.heap.objs.size []))
 { s with heap:=(s.heap.push HI).push (Iu C s.heap.objs.size) }:=by
 have e1:(s.heap.push HI).get? s.heap.objs.size=some HI:=r_ s.heap rfl
 have e2:((s.heap.push HI).push (Iu C s.heap.objs.size)).get? (s.heap.objs.size + 1)=some (Iu C s.heap.objs.size):=by
  have:=r_ (s.heap.push HI) (o:=Iu C s.heap.objs.size) rfl
  rwa [Hd] at this
 have e3:(s.heap.push HI).Ns s.heap.objs.size (fun _=>none):=⟨HI,#[],_,e1,rfl,(fun e he=>absurd he (by simp)),fun _=>rfl⟩
 have I1:=I.laid (a:=s.heap.objs.size) (o:=.own (s.heap.objs.size + 1)) (h':=s.heap.push HI) (t':=s.toks) (fun b u q=>f_ _ q) (l_ _) ⟨_,e1⟩
 refine I1.laid (a:=s.heap.objs.size + 1) (o:=.ins C s.heap.objs.size []) (t':=s.toks) (fun b u q=>f_ _ q) (JG (Hd _ _)) ?_
 have ne:s.heap.objs.size≠s.heap.objs.size + 1:=z_ (Op _)
 refine ⟨by rw [ao ne,am],GI _,ne,e2,fun _=>none,(Heap.Ns1.of_empty e3).at fun o q=>f_ _ q,fun _=>IX,fun y hy=>absurd rfl hy⟩
end
section
variable {X:Cx} {o e value:Expr} {f:Str} {pos pos' tpos:Pos} {ta tv:TE}
end
section
variable {X:Cx} {pins:List (Addr×Obj)} {σ:St} {H:Hp} {s:c_} {A:u_} {E:Value→c_→Prop} {Q:Value→c_→Prop} {c:Value} {b:Bool}
inductive mH (K:ck) (H:Hp):V→Value→Prop where
 | non:mH K H .non (.type "NoneType")
 | bl (x:Bool):mH K H (.bl x) (.type "bool")
 | int (i:Int):mH K H (.int i) (.type "int")
 | str (x:Str):mH K H (.str x) (.type "str")
 | flt (x:UInt64):mH K H (.flt x) (.type "float")
 | lst {a:Addr} {xs:List V} (e:H a=some (.lst xs)):mH K H (.ref a) (.type "list")
 | frz {a:Addr} {o:Obj} {xs:List V} (e:H a=some (.frz o (.lst xs))):mH K H (.ref a) (.type "list")
 | tup {a:Addr} {xs:List V} (e:H a=some (.tup xs)):mH K H (.ref a) (.type "tuple")
 | dK {a:Addr} {kvs:List (Key×V)} (e:H a=some (.dK kvs)):mH K H (.ref a) (.type "dict")
 | dT {a:Addr} {kvs:List (List Key×V)} (e:H a=some (.dT kvs)):mH K H (.ref a) (.type "dict")
 | ins {a C dx:Addr} {fs:List (Str×V)} (e:H a=some (.ins C dx fs)) (cl:Cls K C) (ha:Ks K (.ref C) "__class__"=some (some (.builtin "object.__class__")))
  (hn:NZ K (.builtin "object.__class__") "__get__"=some (some (.builtin "getset_descriptor.__get__"))) (htk:PySem.W.takesIn K (.builtin "object.__class__")=some true)
  (hm:PySem.W.mroIn K C (.type "object")=some true):mH K H (.ref a) (.ref C)
theorem pI {x:V} {u t:Value} (I:Inv X pins σ H s) (rx:RelV x u) (ty:mH X.K H x t) (e:IP X.K t c=some b) (h:∀ tk,Q (.bool b) { s with toks:=tk }) :
 m_ (pi X.prog X.w) A (call (.builtin "isinstance") [u,c]) Q E s:=by
 cases ty with
 | non=>cases (show u=GH from rx); exact Hi PySem.W.kitx_none I.kIn IX e (fun z=>nomatch z) h
 | bl y=>cases (show u=Hy y from rx); exact Hi PySem.W.kitx_bool I.kIn IX e (fun z=>nomatch z) h
 | int i=>obtain ⟨t,q⟩:=(show ∃ t,u=Nl i t from rx); cases q; exact Hi PySem.W.kitx_int I.kIn IX e (fun z=>nomatch z) h
 | str y=>obtain ⟨t,q⟩:=(show ∃ t,u=Ki y t from rx); cases q; exact Hi PySem.W.kitx_str I.kIn IX e (fun z=>nomatch z) h
 | flt y=>obtain ⟨t,q⟩:=(show ∃ t,u=Value.float y t from rx); cases q; exact Hi PySem.W.kitx_float I.kIn IX e (fun z=>nomatch z) h
 | @lst a xs ea =>
  cases (show u=q_ a from rx)
  obtain ⟨_,_,n,_,h1⟩:=(show ObjOk X.prog X.w H s.heap a (.lst xs) from I.hok a _ ea)
  exact Hi N2 I.kIn ⟨_,h1,rfl⟩ e (fun z=>nomatch z) h
 | @frz a ob xs ea =>
  cases (show u=q_ a from rx)
  obtain ⟨_,_,_,n,_,h1⟩:=(show ObjOk X.prog X.w H s.heap a (.frz ob (.lst xs)) from I.hok a _ ea)
  exact Hi N2 I.kIn ⟨_,h1,rfl⟩ e (fun z=>nomatch z) h
 | @tup a xs ea =>
  cases (show u=q_ a from rx)
  obtain ⟨_,_,_,p⟩:=(show ObjOk X.prog X.w H s.heap a (.tup xs) from I.hok a _ ea)
  obtain ⟨o,h1,h2,_⟩:=p
  exact Hi PySem.W.kitx_tuple I.kIn ⟨o,h1,h2⟩ e (fun z=>nomatch z) h
 | @dK a kvs ea =>
  cases (show u=q_ a from rx)
  obtain ⟨_,_,vs,_,p⟩:=(show ObjOk X.prog X.w H s.heap a (.dK kvs) from I.hok a _ ea)
  obtain ⟨o,es,ep,h1,h2,_⟩:=p
  exact Hi N3 I.kIn ⟨o,h1,h2.1⟩ e (fun z=>nomatch z) h
 | @dT a kvs ea =>
  cases (show u=q_ a from rx)
  obtain ⟨_,_,xs,_,o,es,ep,h1,h2,_⟩:=(show ObjOk X.prog X.w H s.heap a (.dT kvs) from I.hok a _ ea)
  exact Hi N3 I.kIn ⟨o,h1,h2.1⟩ e (fun z=>nomatch z) h
 | @ins a C dx fs ea cl ha hn htk hm =>
  cases (show u=q_ a from rx)
  obtain ⟨mA,O,_⟩:=ww I.hok ea
  obtain ⟨od,J,_⟩:=O.look
  exact Hi (PySem.W.kitx_own (cl.get _) cl.hd ha hn htk hm) I.kIn J e (fun z=>nomatch z) h
end
structure Room (k:Nat) (A:u_):Prop where
 hd:A.handled=none
 dp:A.depth + 3 * k + 5 < recursionLimit
 un:A.units + 16 * k + 200 < cLine
theorem Room.mono {j k:Nat} {A:u_} (r:Room k A) (h:j≤k):Room j A:=⟨r.hd,by have:=r.dp; omega,by have:=r.un; omega⟩
theorem Room.deeper {k:Nat} {A:u_} (r:Room (k + 1) A) (env:Env):Room k (A.deeper env) :=
 ⟨r.hd,by have:=r.dp; show A.depth + 1 + 3 * k + 5 < _; omega,by have:=r.un; show A.units + 3 + 16 * k + 200 < _; omega⟩
theorem Room.in1 {k:Nat} {A:u_} (r:Room (k + 1) A):Room k A.in1 :=
 ⟨r.hd,by have:=r.dp; show A.depth + 3 * k + 5 < _; omega,by have:=r.un; show A.units + 1 + 16 * k + 200 < _; omega⟩
theorem Room.depth {k:Nat} {A:u_} (r:Room k A):A.depth < recursionLimit:=by have:=r.dp; omega
theorem Room.units {k:Nat} {A:u_} (r:Room k A):A.units + 64 < cLine:=by have:=r.un; omega
theorem Room.units0 {k:Nat} {A:u_} (r:Room k A):A.units < cLine:=by have:=r.un; omega
def F1:TA:=fun _ H Q=>Q [] H
def C9 (ta:TE) (tr:TA):TA:=fun σ H Q=>ta σ H fun x H1=>tr σ H1 fun xs H2=>Q (x :: xs) H2
section
variable {X:Cx} {e:Expr} {es:List Expr} {te:TE} {t:TA} {pos:Pos}
theorem jP:PA X [] F1:=fun _ _ _ _ H Q I h=>Kx ⟨[],H,I,.nil,h⟩
theorem cU (ha:PE X e te) (hr:PA X es t) (hs:e_ (e :: es) X.env=(false,eval e X.env) :: e_ es X.env:=by rfl):PA X (e :: es) (C9 te t):=by
 intro pos pins s σ H Q I h
 rw [hs]
 show m_ _ _ (spliced ((false,eval e X.env) :: GA pos (e_ es X.env))) _ _ s
 refine Jb (thn (ha pins s σ H _ I h) fun u s1 ⟨x,H1,I1,r1,q1⟩=>?_)
 exact thn (hr pos pins s1 σ H1 _ I1 q1) fun us s2 ⟨xs,H2,I2,r2,q2⟩=>⟨x :: xs,H2,I2,.cons r1 r2,q2⟩
def F3 (t:TA):TE:=fun σ H Q=>t σ H fun xs H1=>xs.length≤sizeLine∧∀ p,H1 p=none→Q (.ref p) (upd H1 p (.tup xs))
def F4 (t:TA):TE:=fun σ H Q=>t σ H fun xs H1=>xs.length≤sizeLine∧∀ p,H1 p=none→Q (.ref p) (upd H1 p (.lst xs))
theorem zl {x1} (h:PA X es t):PE X (.Tuple es x1 pos) (F3 t):=by
 intro pins s σ H Q I hq
 refine wpAny_Tuple_spliced (thn (h pos pins s σ H _ I hq) fun us s1 ⟨xs,H1,I1,r,z,q⟩=>⟨by rw [← r.length]; exact z,?_⟩)
 have hf:H1 s1.heap.objs.size=none:=I1.hok.fresh (l_ _)
 refine ⟨.ref s1.heap.objs.size,upd H1 s1.heap.objs.size (.tup xs),I1.laid (t':=s1.toks) (fun b u e=>f_ _ e) (l_ _) ?_,rfl,q _ hf⟩
 exact ⟨z,us,r,⟨_,r_ _ rfl,rfl,_,rfl⟩⟩
theorem vm (h:PA X es t):PE X (.List es pos) (F4 t):=by
 intro pins s σ H Q I hq
 refine wpAny_List_spliced (thn (h pos pins s σ H _ I hq) fun us s1 ⟨xs,H1,I1,r,z,q⟩=>⟨by rw [← r.length]; exact z,?_⟩)
 have hf:H1 s1.heap.objs.size=none:=I1.hok.fresh (l_ _)
 refine ⟨.ref s1.heap.objs.size,upd H1 s1.heap.objs.size (.lst xs),I1.laid (t':=s1.toks) (fun b u e=>f_ _ e) (l_ _) ?_,rfl,q _ hf⟩
 exact ⟨z,us,0,r,r_ _ rfl⟩
end
abbrev Sp:=List V→Hp→VK→XK→Prop
abbrev CXT:=List Env→Hp→c_→XK→Value→c_→Prop
structure Env0 (P:Program) (w:x_) (K:ck) (mg:Str→Option Value) (base:Heap) (A:u_) (outer:List Env) (s:c_) (H:Hp):Prop where
 frames:A.frames=some outer
 mod:Mod K mg base
 bs:∀ b o,base.get? b=some o→s.heap.get? b=some o∧H b=none
 bsz:base.objs.size≤s.heap.objs.size
 funs:s.heap.FunFrames base outer
 frf:∀ b∈frs outer,H b=none
 hok:HOk P w H s.heap
 bare:Lm s.gens
def CE (outer:List Env) (P:Program) (w:x_) (H:Hp) (s:c_) (Q:VK) (u:Value) (s':c_):Prop :=
 ∃ v H',s'.os=s.os∧Lm s'.gens∧Un (frs outer) [] H H' s.heap s'.heap∧HOk P w H' s'.heap∧RelV v u∧Q v H'
def CR (CX:CXT) (outer:List Env) (P:Program) (w:x_) (H:Hp) (s:c_) (Q:VK) (E:XK) (r:NK) (s':c_):Prop :=
 match r with
 | .ok (.ret u)=>CE outer P w H s Q u s'
 | .ok _=>False
 | .error e=>CX outer H s E e s'
structure FnOk (P:Program) (w:x_) (K:ck) (mg:Str→Option Value) (base:Heap) (CX:CXT) (k:Nat) (f:Addr) (fd:Ha) (ps:List Str) (sp:Sp):Prop where
 len:∀ vs H Q E,sp vs H Q E→vs.length=ps.length
 run:∀ (A:u_) (outer:List Env) (s:c_) (H:Hp) (args:Args) (us:List Value) (vs:List V) (Q:VK) (E:XK),Room k A→Env0 P w K mg base A outer s H→LS s fd args (ps.zip us)→Vals vs us→sp vs H Q E →
  Kq (pi P w) A (.call (.ref f) args) (CR CX outer P w H s Q E) s
theorem FnOk.mono {P:Program} {w:x_} {K:ck} {mg:Str→Option Value} {base:Heap} {CX:CXT} {j k:Nat} {f:Addr} {fd:Ha} {ps:List Str} {sp:Sp} (F:FnOk P w K mg base CX j f fd ps sp) (h:j≤k) :
 FnOk P w K mg base CX k f fd ps sp:=⟨F.len,fun A outer s H args us vs Q E hr=>F.run A outer s H args us vs Q E (hr.mono h)⟩
theorem FnOk.imp {P:Program} {w:x_} {K:ck} {mg:Str→Option Value} {base:Heap} {CX:CXT} {k:Nat} {f:Addr} {fd:Ha} {ps:List Str} {sp sp':Sp} (F:FnOk P w K mg base CX k f fd ps sp)
 (h:∀ vs H Q E,sp' vs H Q E→sp vs H Q E):FnOk P w K mg base CX k f fd ps sp' :=
 ⟨fun vs H Q E q=>F.len vs H Q E (h _ _ _ _ q),fun A outer s H args us vs Q E hr he hb hv hs=>F.run A outer s H args us vs Q E hr he hb hv (h _ _ _ _ hs)⟩
theorem Env0.in1 {P:Program} {w:x_} {K:ck} {mg:Str→Option Value} {base:Heap} {A:u_} {outer:List Env} {s:c_} {H:Hp} (e:Env0 P w K mg base A outer s H) :
 Env0 P w K mg base A.in1 outer s H:=⟨e.frames,e.mod,e.bs,e.bsz,e.funs,e.frf,e.hok,e.bare⟩
section
variable {X:Cx} {pins:List (Addr×Obj)} {σ:St} {H:Hp} {s s':c_}
theorem Inv.env0 (I:Inv X pins σ H s):Env0 X.prog X.w X.K X.mg X.base X.A X.stack s H :=
 ⟨I.ok.frames,I.ok.mod,I.bs,GG I.ok.bsz I.sz,I.stack,I.stkFree,I.hok,I.bare⟩
theorem Inv.after {Q:VK} {u:Value} (I:Inv X pins σ H s) (h:CE X.stack X.prog X.w H s Q u s'):EP X pins σ Q u s':=by
 obtain ⟨v,H',os,bare,un,hok,r,q⟩:=h
 obtain ⟨hh,g,d,t,os'⟩:=s'
 obtain rfl:os'=s.os:=os
 exact ⟨v,H',I.call (h':=hh) (g':=g) (d':=d) (t':=t) (ch:=[]) un hok bare (fun b z=>absurd z (by simp)),r,q⟩
end
def Da (sp:Sp) (dvs:List V) (E:XK) (t:TA):TE:=fun σ H Q=>t σ H fun vs H1=>sp (vs ++ dvs) H1 Q E
def Binds (K:ck) (fd:Ha) (ps:List Str) (ds:List Value):Prop :=
 ∀ (s:c_) (us:List Value),K.In s.heap→(us ++ ds).length=ps.length→LS s fd ⟨us,[]⟩ (ps.zip (us ++ ds))
theorem Binds.all {K:ck} {fd:Ha} {ps:List Str} (h:∀ us:List Value,us.length=ps.length→bindArgs fd ⟨us,[]⟩=pure (ps.zip us)):Binds K fd ps []:=fun s us _ hl=>by
 rw [Jh] at hl ⊢
 exact .of_eq (h us hl)
def mI (CX:CXT) (X:Cx) (E:XK):Prop:=∀ (pins:List (Addr×Obj)) (σ:St) (H:Hp) (s:c_) (e:Value) (s':c_),Inv X pins σ H s→CX X.stack H s E e s'→X.xe e s'
section
variable {X:Cx} {CX:CXT} {k:Nat} {f C:Addr} {fd:Ha} {ps:List Str} {sp:Sp} {dvs:List V} {ds:List Value} {E:XK} {x m:Str} {p pos apos:Pos} {e o:Expr} {es:List Expr} {ta:TE} {t:TA}
theorem zm {pins:List (Addr×Obj)} {σ:St} {H:Hp} {s:c_} {Q:VK} {us:List Value} {vs:List V} (F:FnOk X.prog X.w X.K X.mg X.base CX k f fd ps sp) (hr:Room k X.A) (hb:Binds X.K fd ps ds) (hd:Vals dvs ds) (hx:mI CX X E)
 (I:Inv X pins σ H s) (r:Vals vs us) (h:sp (vs ++ dvs) H Q E):m_ (pi X.prog X.w) X.A (call (.ref f) us) (EP X pins σ Q) X.xe s:=by
 have r2:Vals (vs ++ dvs) (us ++ ds):=r.append hd
 have hl:(us ++ ds).length=ps.length:=by rw [← r2.length]; exact F.len _ _ _ _ h
 refine Lu (JE (F.run X.A X.stack s H ⟨us,[]⟩ (us ++ ds) (vs ++ dvs) Q E hr I.env0 (hb s us I.kIn hl) r2 h) fun r s' hq=>?_)
 cases r with
 | error e=>exact hx pins σ H s e s' I hq
 | ok fl =>
  cases fl with
  | ret u=>exact I.after hq
  | next=>exact Gz hq
  | brk=>exact Gz hq
  | cont=>exact Gz hq
theorem lz (F:FnOk X.prog X.w X.K X.mg X.base CX k f fd ps sp) (hr:Room k X.A) (hg:Gl X x) (hm:X.mg x=some (.ref f)) (hk:Hv X.K (.ref f)=true) (hb:Binds X.K fd ps ds) (hd:Vals dvs ds) (hx:mI CX X E)
 (ha:PA X (e :: es) t) (hdb:(x == ("__debug__":Str))=false:=by decide) (he:e_ (e :: es) X.env=(false,eval e X.env) :: e_ es X.env:=by rfl) (hpl:(GA pos (e_ es X.env)).any (·.1)=false:=by rfl) :
 PE X (.Call (.Name x p) (e :: es) [] pos) (Da sp dvs E t):=by
 intro pins s σ H Q I h
 refine HS (fm I hg hm ?_ hdb)
 refine NH (h₀:=X.base) I.ok.mod.kin hk (thn (ha pos pins s σ H _ I h) fun us s1 ⟨vs,H1,I1,r,q⟩=>⟨I1.kIn,?_⟩) he hpl
 exact zm F hr hb hd hx I1 r q
structure Mk (K:ck) (C f:Addr):Prop where
 makes:PySem.W.makesIn K C=true
 init:Ks K (.ref C) "__init__"=some (some (.ref f))
 fn:O8 K (.ref f)=true
 kp:Hv K (.ref C)=true
end
section
variable {X:Cx} {CX:CXT} {k:Nat} {f C:Addr} {fd:Ha} {ps ks:List Str} {sp:Sp} {E:XK} {x m:Str} {p pos apos kpos:Pos} {e o:Expr} {es:List Expr} {kws:List Ia} {te ta:TE} {t tk:TA} {nm:Option Str}
structure EV (K:ck) (fd:Ha) (ps ks:List Str) (g:List Value→List Value→List Value) (gV:List V→List V→List V):Prop where
 to:∀ (s:c_) (us ws:List Value),K.In s.heap→(g us ws).length=ps.length→LS s fd ⟨us,ks.zip ws⟩ (ps.zip (g us ws))
 rel:∀ {vs:List V} {us:List Value} {zs:List V} {ws:List Value},Vals vs us→Vals zs ws→Vals (gV vs zs) (g us ws)
variable {g:List Value→List Value→List Value} {gV:List V→List V→List V}
end
structure da (N P:List Str) (sc:Scope):Prop where
 kind:sc.kind=.function
 co:sc.isCoroutine=false
 gen:sc.isGenerator=false
 nd:N.Nodup
 pre:N.take P.length=P
 par:∀ x∈P,sc.names.lookup x=some .local∨sc.names.lookup x=some .cell
 nofree:∀ y∈sc.names,y.2≠.free
theorem jQ {kindOf:Str→Option IQ} {x:Str}:∀ {binds:List (Str×Value)} {m:Str→Option Value},(∀ v,(x,v) ∉ binds)→OO kindOf binds m x=m x
 | [],_,_=>rfl
 | (n,v) :: r,m,h=>by
  unfold OO
  rw [jQ fun w hw=>h w (k_ _ hw)]
  split
  · have:x≠n:=by rintro rfl; exact h v j_
    simp [this]
  · rfl
theorem jR {kindOf:Str→Option IQ} {x:Str}:∀ {binds:List (Str×Value)} {m:Str→Option Value},(∀ v,(x,v) ∉ binds)→OP kindOf binds m x=m x
 | [],_,_=>rfl
 | (n,v) :: r,m,h=>by
  unfold OP
  rw [jR fun w hw=>h w (k_ _ hw)]
  split
  · rfl
  · have:x≠n:=by rintro rfl; exact h v j_
    simp [this]
theorem jS {kindOf:Str→Option IQ} {x:Str} {v:Value}:∀ {P:List Str} {vs:List Value} {i:Nat} {m:Str→Option Value},P.Nodup→P[i]?=some x→vs[i]?=some v→kindOf x=some .local →
 OO kindOf (P.zip vs) m x=some v
 | [],_,_,_,_,h,_,_=>by simp at h
 | _ :: _,[],_,_,_,_,h,_=>by simp at h
 | p :: P,w :: vs,0,m,nd,h1,h2,hk=>by
  simp at h1 h2; subst h1; subst h2
  show OO kindOf ((p,w) :: P.zip vs) m p=_
  unfold OO
  rw [jQ fun v hv=>(Hx.mp nd).1 (Lg hv).1,if_pos hk]
  simp
 | p :: P,w :: vs,i + 1,m,nd,h1,h2,hk=>by
  show OO kindOf ((p,w) :: P.zip vs) m x=_
  unfold OO
  exact jS (i:=i) (Hx.mp nd).2 (by simpa using h1) (by simpa using h2) hk
theorem jT {kindOf:Str→Option IQ} {x:Str} {v:Value}:∀ {P:List Str} {vs:List Value} {i:Nat} {m:Str→Option Value},P.Nodup→P[i]?=some x→vs[i]?=some v→kindOf x≠some .local →
 OP kindOf (P.zip vs) m x=some v
 | [],_,_,_,_,h,_,_=>by simp at h
 | _ :: _,[],_,_,_,_,h,_=>by simp at h
 | p :: P,w :: vs,0,m,nd,h1,h2,hk=>by
  simp at h1 h2; subst h1; subst h2
  show OP kindOf ((p,w) :: P.zip vs) m p=_
  unfold OP
  rw [jR fun v hv=>(Hx.mp nd).1 (Lg hv).1,if_neg hk]
  simp
 | p :: P,w :: vs,i + 1,m,nd,h1,h2,hk=>by
  show OP kindOf ((p,w) :: P.zip vs) m x=_
  unfold OP
  exact jT (i:=i) (Hx.mp nd).2 (by simpa using h1) (by simpa using h2) hk
def start (N:List Str) (vs:List V):St:=vs.map some ++ rl (N.length - vs.length) none
def mJ (CX:CXT) (P:Program) (w:x_) (K:ck) (mg:Str→Option Value) (base:Heap) (N:List Str) (qual:Str) (scope:Scope) (f:Addr) (cd:Value) (A:u_) (outer:List Env) (s:c_) (H:Hp) (E:XK):Cx where
 prog:=P
 w:=w
 K:=K
 mg:=mg
 base:=base
 A:=A.deeper (Kc qual scope s.heap.objs.size f cd)
 N:=N
 s₀:=s
 H₀:=H
 env:=Kc qual scope s.heap.objs.size f cd
 outer:=outer
 stack:=Kc qual scope s.heap.objs.size f cd :: outer
 ex:=[]
 calm:=true
 fn:=fun _=>true
 pn:=[]
 xe:=fun e s'=>m_ (pi P w) (A.deeper (Kc qual scope s.heap.objs.size f cd)) (leaving (Kc qual scope s.heap.objs.size f cd) e) (fun _ s''=>CX outer H s E e s'') (fun e' s''=>CX outer H s E e' s'') s'
theorem mK {sc:Scope} {n:Nat} {x:Str} (h:sc.names.lookup x=some .cell):∃ c,(GO n sc.names []).lookup x=some c:=by
 have q:=Kt sc.names n [] (.inl h)
 exact II.mp q
theorem jU {CX:CXT} {P:Program} {w:x_} {K:ck} {mg:Str→Option Value} {base:Heap} {N ps:List Str} {qual:Str} {scope:Scope} {f:Addr} {cd:Value} {A:u_} {outer:List Env} {s s1:c_} {H:Hp} {E:XK} {us:List Value} {vs:List V}
 (S:da N ps scope) (hd:A.handled=none) (e0:Env0 P w K mg base A outer s H) (hl:vs.length=ps.length) (r:Vals vs us)
 (x:InCallC s s.heap.objs.size (OO (Kc qual scope s.heap.objs.size f cd).kindOf (ps.zip us) fun _=>none) (GO (s.heap.objs.size + 1) scope.names []) (OP (Kc qual scope s.heap.objs.size f cd).kindOf (ps.zip us) fun _=>none) s1) :
 Inv (mJ CX P w K mg base N qual scope f cd A outer s H E) [] (start N vs) H s1:=by
 have hpl:ps.length≤N.length:=by have:=congrArg OA S.pre; rw [K0] at this; omega
 obtain ⟨h1,tk,rfl,hk⟩:=x.done
 have noA:∀ b:Addr,b ∉ (mJ CX P w K mg base N qual scope f cd A outer s H E).ex:=fun b z=>absurd (show b∈([]:List Addr) from z) (by simp)
 refine ⟨⟨e0.mod,S.kind,rfl,rfl,l_ _,fun y z c h1 h2=>?_,fun y hy=>?_,fun y c _ h=>?_,fun _=>hd,Nb e0.frames,.inr ⟨rfl,rfl⟩,fun b z=>absurd z (noA b),e0.bs,e0.bsz,fun b _ _=>noA b,fun b z=>absurd z (noA b),e0.funs,e0.frf⟩,
  rfl,e0.bare,Un.kept hk,⟨_,x.toInCall.ns,fun i y v h1 h2 h3=>?_⟩,fun y c h=>⟨_,x.cell y c h⟩,e0.hok.fresh (l_ _),fun y c h=>?_,fun p hp=>absurd (show p∈([]:List (Addr×Obj)) from hp) (by simp),e0.hok.kept hk,?_⟩
 · exact name_of_addr x.apart (IK h1) (IK h2)
 · have hy:scope.names.lookup y=some .cell∨scope.names.lookup y=some .free:=hy
   rcases hy with hy | hy
   · exact mK hy
   · exact absurd rfl (S.nofree _ (IK hy))
 · exact KG (x.above y c (IK h))
 · have hi:i < vs.length:=by
    unfold start at h2
    by_cases hi:i < vs.length
    · exact hi
    · rw [Hh (by simpa using hi)] at h2
      rw [IU] at h2
      split at h2 <;> cases h2
   have ha:vs[i]?=some v:=by
    unfold start at h2
    rw [HP (by simpa using hi),E_] at h2
    cases e:vs[i]? with
    | none=>rw [e] at h2; cases h2
    | some a=>rw [e] at h2; cases h2; rfl
   obtain ⟨u,hu,rv⟩:=r.get ha
   have hp:ps[i]?=some y:=by
    rw [← S.pre,List.getElem?_take_of_lt (by omega)]; exact h1
   have ndP:ps.Nodup:=by rw [← S.pre]; exact S.nd.sublist (N9 _ _)
   refine ⟨u,rv,?_⟩
   rcases S.par y (G6 hp) with k | k
   · exact .inl ⟨k,jS ndP hp hu k⟩
   · obtain ⟨c,e⟩:=mK (n:=s.heap.objs.size + 1) k
     refine .inr ⟨.inl k,c,e,?_⟩
     have q:=x.cell y c e
     rw [jT ndP hp hu (by show scope.names.lookup y≠_; rw [k]; decide)] at q
     exact q
 · exact e0.hok.fresh (KG (x.above y c (IK h)))
 · unfold start
   show _=N.length
   rw [G8,Gw,Ip]
   omega
theorem zn {CX:CXT} {P:Program} {w:x_} {K:ck} {mg:Str→Option Value} {base:Heap} {k:Nat} {f:Addr} {name qual:Str} {params:Arguments} {body:List Stmt} {scope:Scope} {dV kV doc pm cdv ct oc:Value} {an od:Option Addr}
 {osl:Array (Option Value)} {N ps:List Str} {sp:Sp} (lk:K.lookup f=some ⟨oc,od,.func (I_ name qual params body scope dV kV doc pm an cdv ct),osl⟩) (hcd:Lw K cdv qual=true) (S:da N ps scope)
 (len:∀ vs H Q E,sp vs H Q E→vs.length=ps.length)
 (hbody:∀ (A:u_) (outer:List Env) (s:c_) (H:Hp) (vs:List V) (Q:VK) (E:XK),Room k (A.deeper (Kc qual scope s.heap.objs.size f cdv))→sp vs H Q E →
   ∃ t,PSs (mJ CX P w K mg base N qual scope f cdv A outer s H E) body t∧t { nx:=fun _ H'=>Q .non H',rt:=Q } (start N vs) H) :
 FnOk P w K mg base CX (k + 1) f (I_ name qual params body scope dV kV doc pm an cdv ct) ps sp:=by
 refine ⟨len,fun A outer s H args us vs Q E hr e0 hb r hsp=>?_⟩
 have hl:=len _ _ _ _ hsp
 have KX:K.In s.heap:=e0.mod.kin.keeps fun b o e=>(e0.bs b o e).1
 have lim:s.heap.NoLimit:=e0.mod.nolimit.keeps fun b o e=>(e0.bs b o e).1
 have hkind:∀ y∈ps.zip us,scope.names.lookup y.1=some .local∨(scope.names.lookup y.1=some .cell∧((GO (s.heap.objs.size + 1) scope.names []).lookup y.1).isSome=true):=fun ⟨n,v⟩ hy=>by
  rcases S.par n (Lg hy).1 with q | q
  · exact .inl q
  · exact .inr ⟨q,Kt _ _ _ (.inl q)⟩
 refine MU hr.depth (KX _ _ lk) rfl S.co S.gen rfl (NG KX hcd) (hb _ _ _ _ ?_)
 refine Lr S.kind hkind fun env he s1 x=>?_
 subst he
 refine ⟨lim.keeps x.toInCall.keep,codeAny_func ?_⟩
 obtain ⟨t,ht,hq⟩:=hbody A outer s H vs Q E (hr.deeper _) hsp
 have I:Inv (mJ CX P w K mg base N qual scope f cdv A outer s H E) [] (start N vs) H s1:=jU S hr.hd e0 hl r x
 refine GC (ht [] s1 (start N vs) H _ I hq) (fun fl s' hs=>?_) fun e s' hs=>hs
 have fin:∀ {σ':St} {H':Hp} {v:V} {u:Value},Inv (mJ CX P w K mg base N qual scope f cdv A outer s H E) [] σ' H' s'→RelV v u→Q v H'→CE outer P w H s Q u s' :=
  fun {σ' H' v u} J rv q=>⟨v,H',J.os,J.bare,J.base,J.hok,rv,q⟩
 cases fl with
 | ret u =>
  obtain ⟨v,σ',H',J,rv,q⟩:=hs
  exact fin J rv q
 | next =>
  obtain ⟨σ',H',J,q⟩:=hs
  exact fin (v:=V.non) (u:=GH) J rfl q
 | brk =>
  obtain ⟨_,_,_,q⟩:=hs
  exact Gz q
 | cont =>
  obtain ⟨_,_,_,q⟩:=hs
  exact Gz q
section
variable {X:Cx} {x:Str} {p pos:Pos} {e:Expr} {es:List Expr} {t:TA} {id T:String} {r:List V→Hp→VK→Prop}
def tCB (r:List V→Hp→VK→Prop) (t:TA):TE:=fun σ H Q=>t σ H fun vs H1=>r vs H1 Q
theorem dC (hc:CallR X (.builtin id) r) (hg:Gl X x) (hm:X.mg x=none) (hv:Hk x=some (.builtin id)) (ha:PA X (e :: es) t) (hn:x≠"__name__":=by decide) (hdb:(x == ("__debug__":Str))=false:=by decide)
 (he:e_ (e :: es) X.env=(false,eval e X.env) :: e_ es X.env:=by rfl) (hpl:(GA pos (e_ es X.env)).any (·.1)=false:=by rfl):PE X (.Call (.Name x p) (e :: es) [] pos) (tCB r t):=by
 intro pins s σ H Q I h
 refine HS (eG I hg hm hv ?_ hn hdb)
 exact KZ (thn (ha pos pins s σ H _ I h) fun us s1 ⟨vs,H1,I1,r1,q1⟩=>hc pins s1 σ H1 vs us Q I1 r1 q1) he hpl
theorem jV (hc:CallR X (.type T) r) (hg:Gl X x) (hm:X.mg x=none) (hv:Hk x=some (.type T)) (ha:PA X (e :: es) t) (hn:x≠"__name__":=by decide) (hdb:(x == ("__debug__":Str))=false:=by decide)
 (he:e_ (e :: es) X.env=(false,eval e X.env) :: e_ es X.env:=by rfl) (hpl:(GA pos (e_ es X.env)).any (·.1)=false:=by rfl):PE X (.Call (.Name x p) (e :: es) [] pos) (tCB r t):=by
 intro pins s σ H Q I h
 refine HS (eG I hg hm hv ?_ hn hdb)
 exact HE (thn (ha pos pins s σ H _ I h) fun us s1 ⟨vs,H1,I1,r1,q1⟩=>hc pins s1 σ H1 vs us Q I1 r1 q1) he hpl
end
end L2
namespace HT
open PySem PyProof.Rows
section
open PySem.SeqAt
open PySem.AutoSeq1 (wpAny_loadPart')
open PySem.MeetsSeq PySem.MeetsSeq2 PySem.MeetsSeq3
end
section
variable {prog:Program} {w:x_} {A:u_} {E:Value→c_→Prop} {s:c_}
theorem cat_tup {t b:Addr} {vs ws:List Value} {Q:Value→c_→Prop} (ht:OX s.heap t vs.toArray) (hb:OX s.heap b ws.toArray) (hv:vs≠[])
 (h1:ws=[]→Q (.ref t) s) (h2:ws≠[]→Q (.ref s.heap.objs.size) { s with heap:=s.heap.push { cls:=.type "tuple",data:=.seq (vs ++ ws).toArray } })
 (hsz:vs.length + ws.length≤sizeLine):m_ (pi prog w) A (HQ .Add (.ref t) (.ref b)) Q E s:=by
 obtain ⟨⟨cls,dd,data,sl⟩,ho,hc,n,hd⟩:=id ht
 obtain ⟨⟨cls2,dd2,data2,sl2⟩,ho2,hc2,n2,hd2⟩:=id hb
 simp only at hc hd hc2 hd2
 subst hc hd hc2 hd2
 have e:vs.toArray ++ ws.toArray=(vs ++ ws).toArray:=by simp
 by_cases hw:ws=[]
 · exact NX ⟨_,ho,rfl⟩ ⟨_,ho2,rfl⟩ Mb Nx Kw Km (JR _ _)
    (tuple_addW1 t b vs.toArray ws.toArray n n2 dd dd2 sl sl2 (by simpa using hv) (by simp [hw])) ⟨ho,ho2,h1 hw⟩
 · refine NX ⟨_,ho,rfl⟩ ⟨_,ho2,rfl⟩ Mb Nx Kw Km (JR _ _)
    (tuple_addW2 t b vs.toArray ws.toArray n n2 dd dd2 sl sl2 (by simpa using hv) (by simpa using hw) (by rw [y_,y_]; exact hsz)) ⟨ho,ho2,?_⟩
   rw [e]
   exact h2 hw
def sIx (n d:Nat):Option Int→Nat
 | none=>d
 | some v=>if v < 0 then (v + (n:Int)).toNat else min v.toNat n
theorem zo (n d:Nat) (hd:d≤n) (o:Option Int):sIx n d o≤n:=by
 cases o with
 | none=>exact hd
 | some v =>
  show (if v < 0 then (v + (n:Int)).toNat else min v.toNat n)≤n
  by_cases hv:v < 0
  · rw [if_pos hv]; omega
  · rw [if_neg hv]; exact Mp _ _
theorem pJ (v:Int) (n d:Nat):(if v < 0 then max (v + (n:Int)) 0 else min v (n:Int))=((sIx n d (some v):Nat):Int):=by
 show (if v < 0 then max (v + (n:Int)) 0 else min v (n:Int))=(((if v < 0 then (v + (n:Int)).toNat else min v.toNat n):Nat):Int)
 by_cases hv:v < 0
 · simp only [if_pos hv]; omega
 · simp only [if_neg hv]; omega
theorem ot (lo hi:Option Int) (n:Nat):JL lo hi 1 (n:Int)=(((sIx n 0 lo:Nat):Int),((sIx n n hi:Nat):Int)):=by
 have h1:¬ ((1:Int) < 0):=by omega
 unfold JL
 simp only [h1,if_false]
 refine Prod.ext ?_ ?_
 · cases lo with
   | none=>rfl
   | some v=>exact pJ v n 0
 · cases hi with
   | none=>rfl
   | some v=>exact pJ v n n
theorem ou (i j:Nat):Ir (i:Int) (j:Int) 1=j - i:=by
 unfold Ir
 have h1:(1:Int) > 0:=by omega
 simp only [h1,if_true,Int.ediv_one]
 split <;> omega
theorem iu {v:Value} {o:Option Int} {Q:Option Int→c_→Prop} (p:ME v o) (h:Q o s):m_ (pi prog w) A (Builtin.Slice.slicePartIndex v) Q E s:=by
 cases p with
 | none=>exact slicePart_none h
 | int i t=>exact slicePart_int h
theorem sliceApplied_gen {sl:Addr} {vl vu:Value} {lo hi:Option Int} {n:Nat} {Q:Int×Int×Nat→c_→Prop} (hs:s.heap.IsSliceOf sl vl vu .none) (pl:ME vl lo) (pu:ME vu hi)
 (h:Q (((sIx n 0 lo:Nat):Int),1,sIx n n hi - sIx n 0 lo) s):m_ (pi prog w) A (LG (.ref sl) (pure (n:Int))) Q E s:=by
 obtain ⟨os,hos,hcs,hds⟩:=id hs
 unfold LG Builtin.Slice.sliceFields
 refine b_ (b_ (Hs hos hds (x:=vl) rfl (b_ (Hs hos hds (x:=vu) rfl (b_ (Hs hos hds (x:=.none) rfl (d_ ?_)))))))
 refine b_ (slicePart_none ?_)
 show m_ _ _ (if ((1:Int) == 0)=true then _ else _) _ _ s
 rw [if_neg (by decide)]
 refine b_ (iu pl (b_ (iu pu (b_ (d_ ?_)))))
 show m_ _ _ (match JL lo hi 1 (n:Int) with | (lo,hi)=>pure (lo,(1:Int),Ir lo hi 1)) _ _ s
 rw [ot lo hi n]
 show m_ _ _ (pure (((sIx n 0 lo:Nat):Int),(1:Int),Ir ((sIx n 0 lo:Nat):Int) ((sIx n n hi:Nat):Int) 1)) _ _ s
 rw [ou]
 exact d_ h
theorem sS (xs:Array Value) (i k:Nat):((h_ k).filterMap fun (m:Nat)=>xs[((i:Int) + (m:Int) * 1).toNat]?).toArray=((xs.toList.drop i).take k).toArray:=by
 have e:(fun (m:Nat)=>xs[((i:Int) + (m:Int) * 1).toNat]?)=fun m=>xs[i + m]?:=by
  funext m
  have:((i:Int) + (m:Int) * 1).toNat=i + m:=by omega
  rw [this]
 rw [e]
 have:=pick_run xs i k
 rw [LH] at this
 have e2:((fun x=>xs[x]?) ∘ fun x=>i + x)=fun m=>xs[i + m]?:=rfl
 rw [e2] at this
 rw [this]
theorem getItem_tuple_cut {t sl:Addr} {items:Array Value} {vl vu:Value} {lo hi:Option Int} {Q:Value→c_→Prop} (ht:OX s.heap t items) (hs:s.heap.IsSliceOf sl vl vu .none) (pl:ME vl lo) (pu:ME vu hi)
 (hw:¬ (sIx items.size 0 lo=0∧sIx items.size items.size hi=items.size))
 (h:Q (.ref s.heap.objs.size) { s with heap:=s.heap.push { cls:=.type "tuple",data:=.seq ((items.toList.drop (sIx items.size 0 lo)).take (sIx items.size items.size hi - sIx items.size 0 lo)).toArray } })
 (hsz:items.size≤sizeLine):m_ (pi prog w) A (MB (.ref t) (.ref sl)) Q E s:=by
 have htake:sizeOk (.seq ((items.toList.drop (sIx items.size 0 lo)).take (sIx items.size items.size hi - sIx items.size 0 lo)).toArray):=by
  show ((items.toList.drop (sIx items.size 0 lo)).take (sIx items.size items.size hi - sIx items.size 0 lo)).toArray.size≤sizeLine
  rw [y_,K0,Ms,G0]
  omega
 have hj:sIx items.size items.size hi≤items.size:=zo _ _ (l_ _) hi
 obtain ⟨os,hos,hcs,hds⟩:=id hs
 have hTs:s.TypeIs (.ref sl) "slice":=⟨os,hos,hcs⟩
 unfold MB
 try with_reducible refine GV ?_
 first | refine b_ (d_ ?_) | skip
 refine b_ (wpAny_sequenceKey ht.typeIs (by decide) ?_)
 refine b_ (G3 (name:=a_ "__getitem__") ht.typeIs GY
  (G9 GY ht.typeIs entry_tuple_getitem ?_ (args_tuple_getitem _ _)))
 show m_ _ _ (LF (.ref t) >>= _) _ _ s
 refine b_ (tupleItemsOf_ ht ?_)
 refine b_ (Kp hTs ?_)
 rw [if_pos (by decide)]
 refine b_ (sliceApplied_gen hs pl pu ?_)
 have hno:¬ ((((sIx items.size 0 lo:Nat):Int) == 0 && (1:Int) == 1 && (sIx items.size items.size hi - sIx items.size 0 lo) == items.size)=true):=by
  intro q
  rw [g_,g_] at q
  have q1:((sIx items.size 0 lo:Nat):Int)=0:=Nq q.1.1
  have q2:sIx items.size items.size hi - sIx items.size 0 lo=items.size:=Nq q.2
  exact hw ⟨by omega,by omega⟩
 show m_ _ _ (if (((sIx items.size 0 lo:Nat):Int) == 0 && (1:Int) == 1 && (sIx items.size items.size hi - sIx items.size 0 lo) == items.size)=true then _ else _) _ _ s
 rw [if_neg hno,sS]
 first
  | exact b_ (m:=IH _) (G5 (d_ ⟨_,rfl,d_ h⟩) htake)
  | exact b_ (m:=IH _) (G5 (b_ (d_ (d_ ⟨_,rfl,d_ h⟩))) htake)
  | exact b_ (b_ (m:=IH _) (G5 (d_ (d_ ⟨_,rfl,d_ h⟩)) htake))
  | exact b_ (b_ (m:=IH _) (G5 (d_ ⟨_,rfl,d_ h⟩) htake))
end
end HT
namespace L2
open PySem PySem.Spec PyProof.Rows
abbrev TO:=St→Hp→(Option Int→Hp→Prop)→Prop
def PO (X:Cx) (e:Option Expr) (t:TO):Prop :=
 ∀ (pins:List (Addr×Obj)) (s:c_) (σ:St) (H:Hp) (Q:Option Int→Hp→Prop),Inv X pins σ H s→t σ H Q →
  m_ (pi X.prog X.w) X.A (evalPart e X.env) (fun u s'=>∃ o H',Inv X pins σ H' s'∧ME u o∧Q o H') X.xe s
def wx:TO:=fun _ H Q=>Q none H
def Db (t:TE):TO:=fun σ H Q=>t σ H fun x H1=>∃ i,x=.int i∧Q (some i) H1
section
variable {X:Cx} {e:Expr} {te:TE} {lo hi:Option Expr} {tl th:TO} {pos p2:Pos}
theorem wy:PO X none wx:=by
 intro pins s σ H Q I h
 rw [evalPart_none]
 exact d_ ⟨none,H,I,.none,h⟩
theorem wz (h:PE X e te):PO X (some e) (Db te):=by
 intro pins s σ H Q I hw
 rw [evalPart_some]
 refine thn (h pins s σ H _ I hw) fun u s1 ⟨x,H1,I1,r1,q1⟩=>?_
 obtain ⟨i,rfl,q⟩:=q1
 obtain ⟨t,rfl⟩:=r1
 exact ⟨some i,H1,I1,.int i t,q⟩
def SlR (X:Cx) (r:V→Option Int→Option Int→Hp→VK→Prop):Prop :=
 ∀ (pins:List (Addr×Obj)) (s:c_) (σ:St) (H:Hp) (x:V) (v vl vu:Value) (lo hi:Option Int) (sl:Addr) (Q:VK),Inv X pins σ H s→RelV x v→s.heap.IsSliceOf sl vl vu .none→ME vl lo→ME vu hi→r x lo hi H Q →
  ∃ T id,typeLookup (.type T) "__getitem__"=pure (some (.builtin id))∧s.TypeIs v T∧m_ (pi X.prog X.w) X.A (MB v (.ref sl)) (EP X pins σ Q) X.xe s
theorem SlR.or {r r':V→Option Int→Option Int→Hp→VK→Prop} (h:SlR X r) (h':SlR X r'):SlR X (fun x lo hi H Q=>r x lo hi H Q∨r' x lo hi H Q):=by
 intro pins s σ H x v vl vu lo hi sl Q I rx hs pl pu q
 rcases q with q | q
 · exact h pins s σ H x v vl vu lo hi sl Q I rx hs pl pu q
 · exact h' pins s σ H x v vl vu lo hi sl Q I rx hs pl pu q
def tSl (r:V→Option Int→Option Int→Hp→VK→Prop) (te:TE) (tl th:TO):TE:=fun σ H Q=>te σ H fun x H1=>tl σ H1 fun l H2=>th σ H2 fun u H3=>r x l u H3 Q
theorem sT {r:V→Option Int→Option Int→Hp→VK→Prop} (hr:SlR X r) (he:PE X e te) (hl:PO X lo tl) (hu:PO X hi th):PE X (.Subscript e (.Slice lo hi none p2) pos) (tSl r te tl th):=by
 intro pins s σ H Q I h
 refine Subscript_ (thn (he pins s σ H _ I h) fun v s1 ⟨x,H1,I1,r1,q1⟩=>?_)
 refine wpAny_Slice (thn (hl pins s1 σ H1 _ I1 q1) fun vl s2 ⟨l,H2,I2,pl,q2⟩=>thn (hu pins s2 σ H2 _ I2 q2) fun vu s3 ⟨u,H3,I3,pu,q3⟩=>?_)
 rw [evalPart_none]
 refine d_ ?_
 have I4:Inv X pins σ H3 { s3 with heap:=s3.heap.push { cls:=.type "slice",data:=.fields #[vl,vu,.none] } }:=I3.kept (t':=s3.toks) fun b ob q=>f_ _ q
 obtain ⟨T,id,hT,ht,hg⟩:=hr pins { s3 with heap:=s3.heap.push { cls:=.type "slice",data:=.fields #[vl,vu,.none] } } σ H3 x v vl vu l u s3.heap.objs.size Q I4 r1 (Heap.IsSliceOf.new ..) pl pu q3
 show m_ (pi X.prog X.w) X.A (subscriptTail e (.Slice lo hi none p2) v (.ref s3.heap.objs.size)) (EP X pins σ Q) X.xe { s3 with heap:=s3.heap.push { cls:=.type "slice",data:=.fields #[vl,vu,.none] } }
 exact tail_any (ops:=[.ref s3.heap.objs.size,v]) ht hT hg (by with_unfolding_all rfl)
def vn (xs:List V) (lo hi:Option Int):List V:=(xs.drop (HT.sIx xs.length 0 lo)).take (HT.sIx xs.length xs.length hi - HT.sIx xs.length 0 lo)
theorem gq (xs:List V) (lo hi:Option Int):(vn xs lo hi).length≤xs.length:=by
 unfold vn
 rw [K0,Ms]
 omega
def F5 (K:ck):V→Option Int→Option Int→Hp→VK→Prop:=fun x lo hi H Q=>∃ a xs,x=.ref a∧SqT K H a xs ∧
 ¬ (HT.sIx xs.length 0 lo=0∧HT.sIx xs.length xs.length hi=xs.length)∧∀ p,H p=none→Q (.ref p) (upd H p (.tup (vn xs lo hi)))
theorem sl_tup:SlR X (F5 X.K):=by
 intro pins s σ H x v vl vu lo hi sl Q I rx hs pl pu h
 obtain ⟨a,xs,rfl,hx,hw,q⟩:=h
 cases rx
 obtain ⟨its,r,ht,hz⟩:=I.tuple hx
 have hlen:its.toArray.size=xs.length:=by rw [y_]; exact r.length.symm
 refine ⟨"tuple",_,GY.lookup,ht.typeIs,?_⟩
 refine HT.getItem_tuple_cut ht hs pl pu (by rw [hlen]; exact hw) ?_ (by rw [hlen]; exact hz)
 rw [hlen]
 refine ⟨.ref s.heap.objs.size,_,I.laid (t':=s.toks) (o:=.tup (vn xs lo hi)) (fun b ob q=>f_ _ q) (l_ _) ?_,rfl,q _ (I.hok.fresh (l_ _))⟩
 exact ⟨GG (gq xs lo hi) hz,_,(r.drop (HT.sIx xs.length 0 lo)).take (HT.sIx xs.length xs.length hi - HT.sIx xs.length 0 lo),O6 _ _⟩
def zp (K:ck):R2:=fun x y H Q=>∃ a b xs ys,x=.ref a∧y=.ref b∧SqT K H a xs∧SqT K H b ys∧xs≠[]∧xs.length + ys.length≤sizeLine ∧
 (ys=[]→Q (.ref a) H)∧(ys≠[]→∀ p,H p=none→Q (.ref p) (upd H p (.tup (xs ++ ys))))
theorem Vals.nil_iff {xs:List V} {us:List Value} (r:Vals xs us):us=[]↔xs=[]:=by
 cases r with
 | nil=>simp
 | cons _ _=>simp
theorem op_catT:OpR X (HQ .Add) (zp X.K):=by
 intro pins s σ H x y v u Q I rx ry h
 obtain ⟨a,b,xs,ys,rfl,rfl,ha,hb,hx,hz,q1,q2⟩:=h
 cases rx
 cases ry
 obtain ⟨its,r1,p1,_⟩:=I.tuple ha
 obtain ⟨its2,r2,p2,_⟩:=I.tuple hb
 refine HT.cat_tup p1 p2 (fun z=>hx (r1.nil_iff.mp z)) (fun z=>⟨.ref a,H,I,rfl,q1 (r2.nil_iff.mp z)⟩) (fun z=>?_) (by rw [← r1.length,← r2.length]; exact hz)
 refine ⟨.ref s.heap.objs.size,_,I.laid (t':=s.toks) (o:=.tup (xs ++ ys)) (fun b ob q=>f_ _ q) (l_ _) ?_,rfl,q2 (fun w=>z (r2.nil_iff.mpr w)) _ (I.hok.fresh (l_ _))⟩
 exact ⟨by rw [G8]; exact hz,_,r1.append r2,O6 _ _⟩
end
def ixN (n:Nat) (i:Int):Option Nat:=if 0≤i then (if i < n then some i.toNat else none) else if -(n:Int)≤i then some (i + n).toNat else none
def atI {α:Type} (xs:List α) (i:Int):Option α:=(ixN xs.length i).bind fun j=>xs[j]?
theorem wA {n:Nat} {i:Int} {j:Nat} (h:ixN n i=some j):seqIndex? i n=some j∧j < n∧-(n:Int)≤i∧i < n:=by
 unfold ixN at h
 by_cases h0:0≤i
 · rw [if_pos h0] at h
   by_cases h1:i < n
   · rw [if_pos h1] at h
     have e:i.toNat=j:=GL h
     exact ⟨by rw [seqIndex_of h0 h1,e],by omega,by omega,h1⟩
   · rw [if_neg h1] at h; cases h
 · rw [if_neg h0] at h
   by_cases h1:-(n:Int)≤i
   · rw [if_pos h1] at h
     have e:(i + n).toNat=j:=GL h
     exact ⟨by rw [seqIndex_neg (by omega) h1,e],by omega,h1,by omega⟩
   · rw [if_neg h1] at h; cases h
theorem lA {α:Type} {xs:List α} {i:Int} {v:α} (h:atI xs i=some v):∃ j,seqIndex? i xs.length=some j∧xs[j]?=some v∧j < xs.length∧-(xs.length:Int)≤i∧i < xs.length:=by
 unfold atI at h
 cases e:ixN xs.length i with
 | none=>rw [e] at h; cases h
 | some j =>
  rw [e] at h
  obtain ⟨h1,h2,h3,h4⟩:=wA e
  exact ⟨j,h1,h,h2,h3,h4⟩
def pK (b:Expr):Prop:=∀ o i,Ow b false o i=operate [o,i] (MB o i)
def IxR (X:Cx) (r:R2):Prop :=
 ∀ (value slice:Expr) (pins:List (Addr×Obj)) (s:c_) (σ:St) (H:Hp) (x y:V) (v u:Value) (Q:VK),Inv X pins σ H s→RelV x v→RelV y u→r x y H Q →
  Ow slice false v u=operate [v,u] (MB v u)→m_ (pi X.prog X.w) X.A (subscriptTail value slice v u) (EP X pins σ Q) X.xe s
def MtR (X:Cx) (id:String) (r:V→List V→Hp→VK→Prop):Prop :=
 ∀ (pins:List (Addr×Obj)) (s:c_) (σ:St) (H:Hp) (x:V) (xs:List V) (v:Value) (us:List Value) (Q:VK),Inv X pins σ H s→RelV x v→Vals xs us→r x xs H Q →
  m_ (pi X.prog X.w) X.A (call (.builtin id) (v :: us)) (EP X pins σ Q) X.xe s
section
variable {X:Cx} {a b:Expr} {ta tb:TE} {pos:Pos}
theorem IxR.or {r r':R2} (h:IxR X r) (h':IxR X r'):IxR X (fun x y H Q=>r x y H Q∨r' x y H Q):=by
 intro value slice pins s σ H x y v u Q I rx ry q hs
 rcases q with q | q
 · exact h value slice pins s σ H x y v u Q I rx ry q hs
 · exact h' value slice pins s σ H x y v u Q I rx ry q hs
theorem MtR.or {id:String} {r r':V→List V→Hp→VK→Prop} (h:MtR X id r) (h':MtR X id r'):MtR X id (fun x xs H Q=>r x xs H Q∨r' x xs H Q):=by
 intro pins s σ H x xs v us Q I rx rs q
 rcases q with q | q
 · exact h pins s σ H x xs v us Q I rx rs q
 · exact h' pins s σ H x xs v us Q I rx rs q
theorem Dc {r:R2} (hr:IxR X r) (ha:PE X a ta) (hb:PE X b tb) (hs:pK b):PE X (.Subscript a b pos) (tOp r ta tb):=by
 intro pins s σ H Q I h
 exact Subscript_ (CZ ha hb I h fun v u s2 x y H2 I2 rx ry q=>hr a b pins s2 σ H2 x y v u Q I2 rx ry q (hs _ _))
def EW (K:ck):R2:=fun x y H Q=>∃ p xs i v,x=.ref p∧y=.int i∧SqL K H p xs∧atI xs i=some v∧Q v H
def EY (K:ck):R2:=fun x y H Q=>∃ p xs i v,x=.ref p∧y=.int i∧SqT K H p xs∧atI xs i=some v∧Q v H
def EZ:R2:=fun x y H Q=>∃ z i c,x=.str z∧y=.int i∧z.length≤sizeLine∧atI z.cps.toList i=some c∧Q (.str ⟨#[c]⟩) H
theorem ix_list:IxR X (EW X.K):=by
 intro value slice pins s σ H x y v u Q I rx ry h hs
 obtain ⟨p,xs,i,z,rfl,rfl,hq,he,q⟩:=h
 cases rx
 obtain ⟨t,rfl⟩:=ry
 obtain ⟨its,r,pl,hz⟩:=I.list hq
 obtain ⟨j,h1,h2,h3,h4,h5⟩:=lA he
 obtain ⟨w,ew,rw'⟩:=r.get h2
 have hl:=r.length
 have hn:=mG
 have fin:EP X pins σ Q w s:=⟨z,H,I,rw',q⟩
 by_cases h0:0≤i
 · have hj:i.toNat=j:=by
    rw [seqIndex_of h0 h5] at h1
    exact GL h1
   exact item_listR pl.isList h0 (by omega) (by rw [hj]; simpa using ew) fin hs
 · have hj:(i + (its.toArray.size:Int)).toNat=j:=by
    rw [seqIndex_neg (by omega) h4] at h1
    rw [y_,← hl]
    exact GL h1
   exact MI (x:=w) pl.isList.typeIs slot_list_getitem.lookup
    (wpAny_getItem_list_neg (Q:=fun r s'=>r=w∧EP X pins σ Q r s') pl.isList (by omega) (by rw [y_] <;> omega) (by omega) (by rw [hj]; simpa using ew) ⟨rfl,fin⟩) hs
theorem ix_tup:IxR X (EY X.K):=by
 intro value slice pins s σ H x y v u Q I rx ry h hs
 obtain ⟨p,xs,i,z,rfl,rfl,hq,he,q⟩:=h
 cases rx
 obtain ⟨t,rfl⟩:=ry
 obtain ⟨its,r,pl,hz⟩:=I.tuple hq
 obtain ⟨j,h1,h2,h3,h4,h5⟩:=lA he
 obtain ⟨w,ew,rw'⟩:=r.get h2
 have hl:=r.length
 have hn:=mG
 have fin:EP X pins σ Q w s:=⟨z,H,I,rw',q⟩
 exact MI (x:=w) pl.typeIs slot_tuple_getitem.lookup
  (getItem_tuple (j:=j) (Q:=fun r s'=>r=w∧EP X pins σ Q r s') pl (by omega) (by omega) (by rw [y_,← hl]; exact h1) (by simpa using ew) ⟨rfl,fin⟩) hs
theorem zq:IxR X EZ:=by
 intro value slice pins s σ H x y v u Q I rx ry h hs
 obtain ⟨z,i,c,rfl,rfl,hz,he,q⟩:=h
 obtain ⟨t,rfl⟩:=rx
 obtain ⟨t',rfl⟩:=ry
 obtain ⟨j,h1,h2,h3,h4,h5⟩:=lA he
 have hl:z.cps.toList.length=z.length:=by simp [Str.length]
 rw [hl] at h1 h4 h5
 have hn:=mG
 exact tail_any (KS s z t) slot_str_getitem.lookup (getItem_str (c:=c) (by
  have e1:decide (i < -(2 ^ 63:Int))=false:=decide_eq_false (by omega)
  have e2:decide (i ≥ 2 ^ 63)=false:=decide_eq_false (by omega)
  rw [e1,e2,ND]) (by rw [h1]; simpa using h2) ⟨.str ⟨#[c]⟩,H,I.tok _,⟨_,rfl⟩,q⟩) hs
def rIx (K:ck):R2:=fun x y H Q=>EW K x y H Q∨EY K x y H Q∨EZ x y H Q
theorem zr:IxR X (rIx X.K):=ix_list.or (ix_tup.or zq)
theorem Inv.lst {pins:List (Addr×Obj)} {σ:St} {H:Hp} {s:c_} {p:Addr} {xs:List V} (I:Inv X pins σ H s) (h:H p=some (.lst xs)) :
 ∃ (its:List Value) (n:Nat),Vals xs its∧s.heap.get? p=some { cls:=.type "list",data:=.seq its.toArray n }∧xs.length≤sizeLine:=by
 obtain ⟨z,its,n,r,e⟩:=I.hok p _ h
 exact ⟨its,n,r,e,z⟩
theorem jW (lo hi:Option Int) (n:Nat):(Kh lo hi none n).1=((HT.sIx n 0 lo:Nat):Int)∧(Kh lo hi none n).2.1=((HT.sIx n n hi:Nat):Int)∧(Kh lo hi none n).2.2=1:=by
 refine ⟨?_,?_,rfl⟩
 · cases lo with
   | none=>simp [Kh,HT.sIx]
   | some i =>
    simp only [Kh,HT.sIx,Oo,show (1:Int) > 0 by decide,if_true]
    by_cases h:i < 0
    · simp only [h,if_true] <;> omega
    · simp only [h,if_false] <;> omega
 · cases hi with
   | none=>simp [Kh,HT.sIx]
   | some i =>
    simp only [Kh,HT.sIx,Oo,show (1:Int) > 0 by decide,if_true]
    by_cases h:i < 0
    · simp only [h,if_true] <;> omega
    · simp only [h,if_false] <;> omega
theorem jd (its:List Value) (lo hi:Option Int):slicePick its.toArray lo hi none=((its.drop (HT.sIx its.length 0 lo)).take (HT.sIx its.length its.length hi - HT.sIx its.length 0 lo)).toArray:=by
 obtain ⟨h1,h2,h3⟩:=jW lo hi its.toArray.size
 unfold slicePick
 rw [h1,h2,h3]
 simp only [sliceRange_one,pick_run,y_] <;> rfl
def F6 (K:ck):V→Option Int→Option Int→Hp→VK→Prop:=fun x lo hi H Q=>∃ a xs,x=.ref a∧SqL K H a xs∧∀ p,H p=none→Q (.ref p) (upd H p (.lst (vn xs lo hi)))
theorem wB:SlR X (F6 X.K):=by
 intro pins s σ H x v vl vu lo hi sl Q I rx hs pl pu h
 obtain ⟨a,xs,rfl,hx,q⟩:=h
 cases rx
 obtain ⟨its,r,ht,hz⟩:=I.list hx
 have hlen:=r.length
 refine ⟨"list",_,slot_list_getitem.lookup,ht.isList.typeIs,?_⟩
 refine wpAny_getItem_list_slice ht.isList hs pl pu .none (by simp) ?_ (by rw [y_] <;> omega)
 rw [jd,← hlen]
 refine ⟨.ref s.heap.objs.size,_,I.laid (t':=s.toks) (o:=.lst (vn xs lo hi)) (fun b ob q=>f_ _ q) (l_ _) ?_,rfl,q _ (I.hok.fresh (l_ _))⟩
 exact ⟨GG (gq xs lo hi) hz,_,0,(r.drop (HT.sIx xs.length 0 lo)).take (HT.sIx xs.length xs.length hi - HT.sIx xs.length 0 lo),r_ _ rfl⟩
def c7:V→Bool
 | .non=>true
 | .bl _=>true
 | .int _=>true
 | .str _=>true
 | _=>false
def eqV:V→V→Bool
 | .non,.non=>true
 | .bl a,.bl b=>a == b
 | .bl a,.int b=>(if a then 1 else 0) == b
 | .int a,.bl b=>a == (if b then 1 else 0)
 | .int a,.int b=>a == b
 | .str a,.str b=>a == b
 | _,_=>false
theorem zt {A:u_} {s:c_} {y x:V} {u v:Value} (ry:RelV y u) (rx:RelV x v) (fy:c7 y=true) (fx:c7 x=true):SeqAt.EqAt A s u v (eqV y x):=by
 cases y with
 | non =>
  cases ry
  cases x with
  | non=>cases rx; exact SeqAt.EqAt.same _
  | bl b=>cases rx; exact SeqAt.EqAt.none_bool b
  | int b=>obtain ⟨t,rfl⟩:=rx; exact SeqAt.EqAt.none_int b t
  | str b=>obtain ⟨t,rfl⟩:=rx; exact SeqAt.EqAt.none_str b t
  | _=>exact absurd (show false=true from fx) on
 | bl a =>
  cases ry
  cases x with
  | non=>cases rx; exact SeqAt.EqAt.bool_none a
  | bl b=>cases rx; exact M6 a b
  | int b=>obtain ⟨t,rfl⟩:=rx; exact SeqAt.EqAt.bool_int a b t
  | str b=>obtain ⟨t,rfl⟩:=rx; exact SeqAt.EqAt.bool_str a b t
  | _=>exact absurd (show false=true from fx) on
 | int a =>
  obtain ⟨t',rfl⟩:=ry
  cases x with
  | non=>cases rx; exact SeqAt.EqAt.int_none a t'
  | bl b=>cases rx; exact SeqAt.EqAt.int_bool a t' b
  | int b=>obtain ⟨t,rfl⟩:=rx; exact SeqAt.EqAt.int_int a t' b t
  | str b=>obtain ⟨t,rfl⟩:=rx; exact NJ a t' b t
  | _=>exact absurd (show false=true from fx) on
 | str a =>
  obtain ⟨t',rfl⟩:=ry
  cases x with
  | non=>cases rx; exact SeqAt.EqAt.str_none a t'
  | bl b=>cases rx; exact SeqAt.EqAt.str_bool a t' b
  | int b=>obtain ⟨t,rfl⟩:=rx; exact NI a t' b t
  | str b=>obtain ⟨t,rfl⟩:=rx; exact SeqAt.EqAt.str_str a t' b t
  | _=>exact absurd (show false=true from fx) on
 | _=>exact absurd (show false=true from fy) on
def eqU (x:V) (u:Value):Bool:=match u with
 | .none=>eqV .non x
 | .bool b=>eqV (.bl b) x
 | .int i _=>eqV (.int i) x
 | .str z _=>eqV (.str z) x
 | _=>false
theorem mL {x y:V} {u:Value} (r:RelV y u) (f:c7 y=true):eqU x u=eqV y x:=by
 cases y with
 | non=>cases r; rfl
 | bl b=>cases r; rfl
 | int i=>obtain ⟨t,rfl⟩:=r; rfl
 | str z=>obtain ⟨t,rfl⟩:=r; rfl
 | _=>exact absurd (show false=true from f) on
theorem gs {x:V}:∀ {xs:List V} {us:List Value},Vals xs us→xs.all c7=true→us.any (eqU x)=xs.any fun y=>eqV y x
 | _,_,.nil,_=>rfl
 | y :: xs,u :: us,.cons r t,f=>by
  rw [Hw,g_] at f
  rw [HH,HH,mL r f.1,gs t f.2]
theorem cV {A:u_} {s:c_} {x:V} {v:Value} (rx:RelV x v) (fx:c7 x=true):∀ {xs:List V} {us:List Value},Vals xs us→xs.all c7=true→∀ u∈us,SeqAt.EqAt A s u v (eqU x u)
 | _,_,.nil,_=>fun u hu=>by cases hu
 | y :: xs,u :: us,.cons r t,f=>fun u' hu=>by
  rw [Hw,g_] at f
  rcases p_.mp hu with rfl | hu
  · rw [mL r f.1]; exact zt r rx f.1 fx
  · exact cV rx fx t f.2 u' hu
def inV (x:V) (xs:List V):Bool:=xs.any fun y=>eqV y x
def rIn (K:ck) (neg:Bool):R2:=fun x y H Q=>∃ p xs,y=.ref p∧(SqL K H p xs∨SqT K H p xs)∧c7 x=true∧xs.all c7=true∧Q (.bl (if neg then !inV x xs else inV x xs)) H
theorem pL:OpR X (Gx .In) (rIn X.K false):=by
 intro pins s σ H x y v u Q I rx ry h
 obtain ⟨p,xs,rfl,hq,fx,fs,q⟩:=h
 cases ry
 rcases hq with hq | hq
 · obtain ⟨its,r,pl,hz⟩:=I.list hq
   refine SeqAt.in_listAt (eqU x) pl.isList (fun w hw=>cV rx fx r fs w (by simpa using hw)) ⟨.bl _,H,I,rfl,?_⟩
   rw [show its.toArray.any (eqU x)=its.any (eqU x) by simp,gs r fs]
   exact q
 · obtain ⟨its,r,pl,hz⟩:=I.tuple hq
   refine SeqAt.in_tupleAt (eqU x) pl (fun w hw=>cV rx fx r fs w (by simpa using hw)) ⟨.bl _,H,I,rfl,?_⟩
   rw [show its.toArray.any (eqU x)=its.any (eqU x) by simp,gs r fs]
   exact q
theorem jX:OpR X (Gx .NotIn) (rIn X.K true):=by
 intro pins s σ H x y v u Q I rx ry h
 obtain ⟨p,xs,rfl,hq,fx,fs,q⟩:=h
 cases ry
 rcases hq with hq | hq
 · obtain ⟨its,r,pl,hz⟩:=I.list hq
   refine SeqAt.notIn_listAt (eqU x) pl.isList (fun w hw=>cV rx fx r fs w (by simpa using hw)) ⟨.bl _,H,I,rfl,?_⟩
   rw [show its.toArray.any (eqU x)=its.any (eqU x) by simp,gs r fs]
   exact q
 · obtain ⟨its,r,pl,hz⟩:=I.tuple hq
   refine SeqAt.notIn_tupleAt (eqU x) pl (fun w hw=>cV rx fx r fs w (by simpa using hw)) ⟨.bl _,H,I,rfl,?_⟩
   rw [show its.toArray.any (eqU x)=its.any (eqU x) by simp,gs r fs]
   exact q
theorem op_notIn_str:OpR X (Gx .NotIn) (fun x y H Q=>∃ i j,x=.str i∧y=.str j∧Q (.bl (!(!(Hb j i 0 j.length 1).isEmpty))) H):=by
 intro pins s σ H x y v u Q I rx ry h
 obtain ⟨i,j,rfl,rfl,q⟩:=h
 obtain ⟨t,rfl⟩:=rx
 obtain ⟨t',rfl⟩:=ry
 exact notIn_str ⟨.bl _,H,I,rfl,q⟩
theorem CallR.or {f:Value} {r r':List V→Hp→VK→Prop} (h:CallR X f r) (h':CallR X f r'):CallR X f (fun xs H Q=>r xs H Q∨r' xs H Q):=by
 intro pins s σ H xs us Q I rs q
 rcases q with q | q
 · exact h pins s σ H xs us Q I rs q
 · exact h' pins s σ H xs us Q I rs q
theorem jf:CallR X (.type "tuple") (fun xs H Q=>∃ p ys,xs=[.ref p]∧((SqL X.K H p ys∧∀ l,H l=none→Q (.ref l) (upd H l (.tup ys)))∨(SqT X.K H p ys∧Q (.ref p) H))):=by
 intro pins s σ H xs us Q I r h
 obtain ⟨p,ys,rfl,h⟩:=h
 obtain ⟨u,rfl,rx⟩:=fq r
 cases rx
 rcases h with ⟨hq,q⟩ | ⟨hq,q⟩
 · obtain ⟨its,r',pl,hz⟩:=I.list hq
   have hlen:=r'.length
   refine call_tuple_list pl.isList (fun h' kp=>?_) (by simp only [y_] <;> omega)
   have I1:Inv X pins σ H { s with heap:=h' }:=I.kept (t':=s.toks) kp
   have I2:Inv X pins σ (upd H h'.objs.size (.tup ys)) { s with heap:=h'.push { cls:=.type "tuple",data:=.seq its.toArray } } :=
    I1.laid (t':=s.toks) (fun b o e=>f_ _ e) (l_ _) (show ObjOk X.prog X.w _ _ _ (.tup ys) from ⟨hz,its,r',O6 _ _⟩)
   exact ⟨.ref h'.objs.size,_,I2,rfl,q _ (I1.hok.fresh (l_ _))⟩
 · obtain ⟨its,r',pl,hz⟩:=I.tuple hq
   exact call_tuple_same pl ⟨.ref p,H,I,rfl,q⟩
def tyV (K:ck) (T:String) (x:V) (H:Hp):Prop:=match x with
 | .str _=>T="str"
 | .int _=>T="int"
 | .ref p=>(T="list"∧∃ xs,SqL K H p xs)∨(T="tuple"∧∃ o,K.lookup p=some o∧o.cls=.type "tuple"∧o.dict=none) ∨
  (T="dict"∧((∃ kvs,H p=some (.dK kvs))∨∃ kvs,H p=some (.dT kvs)))∨(T="set"∧∃ S n,H p=some (.set S n))
 | _=>False
theorem zu {pins:List (Addr×Obj)} {σ:St} {H:Hp} {s:c_} {T:String} {x:V} {v:Value} (I:Inv X pins σ H s) (r:RelV x v) (ty:tyV X.K T x H) :
 s.TypeIs v T∧∀ a,v=.ref a→∃ ob,s.heap.get? a=some ob∧ob.dict=none:=by
 cases x with
 | str z =>
  obtain ⟨t,rfl⟩:=r
  cases (show T="str" from ty)
  exact ⟨KS s z t,fun _ e=>nomatch e⟩
 | int i =>
  obtain ⟨t,rfl⟩:=r
  cases (show T="int" from ty)
  exact ⟨NE s i t,fun _ e=>nomatch e⟩
 | ref p =>
  cases r
  rcases ty with ⟨rfl,xs,hq⟩ | ⟨rfl,o,hk,hc,hd⟩ | ⟨rfl,hk⟩ | ⟨rfl,S,n,hk⟩
  · obtain ⟨its,_,pl,_⟩:=I.list hq
    refine ⟨pl.isList.typeIs,fun a e=>?_⟩
    cases e
    obtain ⟨o,n,e,c,hd,_⟩:=pl
    exact ⟨o,e,hd⟩
  · refine ⟨⟨o,I.kIn p o hk,hc⟩,fun a e=>?_⟩
    cases e
    exact ⟨o,I.kIn _ o hk,hd⟩
  · have z:∃ o,s.heap.get? p=some o∧o.ExactDict:=by
     rcases hk with ⟨kvs,hk⟩ | ⟨kvs,hk⟩
     · obtain ⟨_,_,_,_,o,_,_,e,ex,_⟩:=I.hok p _ hk
       exact ⟨o,e,ex⟩
     · obtain ⟨_,_,_,_,o,_,_,e,ex,_⟩:=I.hok p _ hk
       exact ⟨o,e,ex⟩
    obtain ⟨o,e,ex⟩:=z
    refine ⟨⟨o,e,ex.1⟩,fun a e2=>?_⟩
    cases e2
    exact ⟨o,e,ex.2.1⟩
  · obtain ⟨o,_,_,_,e,ex,_⟩:=I.hok p _ hk
    refine ⟨⟨o,e,ex.1⟩,fun a e2=>?_⟩
    cases e2
    exact ⟨o,e,ex.2.1⟩
 | _=>exact Gz ty
def tBM (K:ck) (T:String) (r:V→List V→Hp→VK→Prop) (to:TE) (t:TA):TE:=fun σ H Q=>to σ H fun x H1=>tyV K T x H1∧t σ H1 fun xs H2=>r x xs H2 Q
variable {o e:Expr} {es:List Expr} {to:TE} {t:TA} {name:Str} {apos cpos:Pos} {T id:String} {r:V→List V→Hp→VK→Prop}
theorem sU (pa:PlainAttrs T) (slot:Slot T name id) (hty:Oe (.builtin id)=pure (.type "method_descriptor")) (hm:MtR X id r) (ho:PE X o to) (ha:PA X (e :: es) t)
 (hbase:HV o name X.env (eval o X.env)=eval o X.env:=by rfl)
 (hfew:((GA cpos (e_ (e :: es) X.env)).all (fun x=>!x.1) && (Ii cpos (Hc [] X.env)).all (fun x=>x.1.isSome)
   && decide ((e :: es).length + ([]:List Ia).length + (if ([]:List Ia).isEmpty then 0 else 1) < 30))=true:=by rfl)
 (hline:(apos.endLine == cpos.line)=true:=by rfl) (hs:e_ (e :: es) X.env=(false,eval e X.env) :: e_ es X.env:=by rfl) (hplain:(GA cpos (e_ es X.env)).any (·.1)=false:=by rfl) :
 PE X (.Call (.Attribute o name apos) (e :: es) [] cpos) (tBM X.K T r to t):=by
 intro pins s σ H Q I h
 refine wpAny_Call_method_late hbase hfew hline rfl (thn (ho pins s σ H _ I h) fun v s1 ⟨x,H1,I1,r1,ty,q1⟩=>?_)
 obtain ⟨h1,h2⟩:=zu I1 r1 ty
 refine ⟨T,id,pa,slot,hty,h1,h2,?_⟩
 have hA:=ha cpos pins s1 σ H1 _ I1 q1
 rw [hs] at hA ⊢
 refine Ky (by show (false || (GA cpos (e_ es X.env)).any (·.1))=false; rw [hplain] <;> rfl) (K9 ?_)
 exact thn hA fun us s2 ⟨vs,H2,I2,r2,q2⟩=>hm pins s2 σ H2 x vs v us Q I2 r1 r2 q2
end
def MtM (X:Cx) (id:String) (r:V→List V→Hp→VK→Prop):Prop :=
 ∀ (pins:List (Addr×Obj)) (s:c_) (σ:St) (H:Hp) (x:V) (xs:List V) (v:Value) (us:List Value) (Q:VK),Inv X pins σ H s→RelV x v→Vals xs us→r x xs H Q →
  m_ (pi X.prog X.w) X.A (call (.builtin id) (v :: us)) (EP X pins σ Q) X.xe s
theorem Vals.one:∀ {x:V} {us:List Value},Vals [x] us→∃ u,us=[u]∧RelV x u
 | _,_,.cons r .nil=>⟨_,rfl,r⟩
theorem Vals.two:∀ {x y:V} {us:List Value},Vals [x,y] us→∃ u v,us=[u,v]∧RelV x u∧RelV y v
 | _,_,_,.cons r (.cons q .nil)=>⟨_,_,rfl,r,q⟩
theorem Vals.zero:∀ {us:List Value},Vals [] us→us=[]
 | _,.nil=>rfl
theorem Vals.rep {xs:List V} {us:List Value} (h:Vals xs us):∀ k:Nat,Vals (rl k xs).flatten (rl k us).flatten
 | 0=>.nil
 | k + 1=>by
  rw [Hq,Hq,IC,IC]
  exact Vals.append h (Vals.rep h k)
theorem jY (its:List Value):∀ (k:Nat) (acc:List Value),
 ML (fun x1 x2=>x1 ++ x2) acc.toArray (rl k its.toArray)=(acc ++ (rl k its).flatten).toArray
 | 0,acc=>by simp
 | k + 1,acc=>by
  have e:acc.toArray ++ its.toArray=(acc ++ its).toArray:=by simp
  have e2:(acc ++ its) ++ (rl k its).flatten=acc ++ (rl (k + 1) its).flatten:=by
   rw [Hq,IC,LX]
  rw [← e2,← jY its k (acc ++ its),← e,Hq,Ix]
section
variable {X:Cx} {pins:List (Addr×Obj)} {σ:St} {H:Hp} {s:c_} {l b:Addr} {xs ys zs:List V}
theorem Inv.lset {its its':List Value} {n:Nat} {f:Array Value→Array Value} {t':Nat} (I:Inv X pins σ H s) (hH:H l=some (.lst xs))
 (e:s.heap.get? l=some { cls:=.type "list",data:=.seq its.toArray n }) (hf:f its.toArray=its'.toArray) (hv:Vals ys its') (hz:ys.length≤sizeLine) :
 Inv X pins σ (upd H l (.lst ys)) { s with heap:=s.heap.update l (GK f),toks:=t' }:=by
 have q:=Om e f
 rw [hf] at q
 refine I.write (x:=l) (e:=l) (by rw [hH]; exact trivial) (.inl rfl) (fun b' u hb hu=>(MF s.heap (GK f) (Im hb)).trans hu) ⟨_,q⟩ ?_
 exact ⟨hz,its',_,hv,q⟩
theorem Inv.lnew {its:List Value} {t':Nat} (I:Inv X pins σ H s) (hv:Vals ys its) (hz:ys.length≤sizeLine) :
 Inv X pins σ (upd H s.heap.objs.size (.lst ys)) { s with heap:=s.heap.push { cls:=.type "list",data:=.seq its.toArray },toks:=t' } :=
 I.laid (fun _ _ q=>f_ _ q) (l_ _) ⟨hz,its,0,hv,r_ _ rfl⟩
theorem Inv.fresh (I:Inv X pins σ H s):H s.heap.objs.size=none:=I.hok.fresh (l_ _)
theorem Inv.lstM (I:Inv X pins σ H s) (hH:H l=some (.lst xs)):xs.length≤sizeLine∧∃ (its:List Value) (n:Nat),Vals xs its∧xs.length=its.length∧s.heap.get? l=some { cls:=.type "list",data:=.seq its.toArray n }:=by
 obtain ⟨z,its,n,r,e⟩:=I.hok l _ hH
 exact ⟨z,its,n,r,r.length,e⟩
theorem sV {n:Nat} (h:n≤sizeLine):JU n=false:=by
 unfold JU
 exact decide_eq_false (by omega)
end
section
variable {X:Cx}
def wC:V→List V→Hp→VK→Prop:=fun x vs H Q=>∃ l xs y,x=.ref l∧vs=[y]∧H l=some (.lst xs)∧xs.length < sizeLine∧Q .non (upd H l (.lst (xs ++ [y])))
theorem pM:MtM X "list.append" wC:=by
 intro pins s σ H x vs v us Q I rx rv h
 obtain ⟨l,xs,y,rfl,rfl,hH,hz,q⟩:=h
 cases rx
 obtain ⟨u,rfl,ru⟩:=rv.one
 obtain ⟨z,its,n,r,hl,e⟩:=I.lstM hH
 refine Jv K7 ⟨_,e,rfl⟩ Nu (M_ _ _) (NW l its.toArray n u (by rw [y_]; omega)) ⟨e,?_⟩
 refine ⟨.non,_,I.lset (its':=its ++ [u]) hH e (by simp) (r.append (.cons ru .nil)) ?_,rfl,q⟩
 rw [G8,MX]
 omega
def E6:R2:=fun x y H Q=>∃ l b xs zs,x=.ref l∧y=.ref b∧H l=some (.lst xs)∧H b=some (.lst zs)∧xs.length + zs.length≤sizeLine∧∀ p,H p=none→Q (.ref p) (upd H p (.lst (xs ++ zs)))
theorem zv:OpR X (HQ .Add) E6:=by
 intro pins s σ H x y v u Q I rx ry h
 obtain ⟨l,b,xs,zs,rfl,rfl,hH,hB,hz,q⟩:=h
 cases rx
 cases ry
 obtain ⟨z,its,n,r,hl,e⟩:=I.lstM hH
 obtain ⟨z2,its2,n2,r2,hl2,e2⟩:=I.lstM hB
 refine PySem.P.add_list e e2 ?_ (by rw [y_,y_]; omega)
 have ea:its.toArray ++ its2.toArray=(its ++ its2).toArray:=by simp
 rw [ea]
 exact ⟨.ref _,_,I.lnew (t':=s.toks) (r.append r2) (by rw [G8]; omega),rfl,q _ I.fresh⟩
def E7:R2:=fun x y H Q=>∃ l k xs,x=.ref l∧y=.int k∧H l=some (.lst xs)∧-(2 ^ 63)≤k∧k < 2 ^ 63∧xs.length * k.toNat≤sizeLine ∧
 ∀ p,H p=none→Q (.ref p) (upd H p (.lst (rl k.toNat xs).flatten))
theorem wD {α:Type} (xs:List α) (k:Nat):(rl k xs).flatten.length=k * xs.length:=by
 induction k with
 | zero=>simp
 | succ k ih=>rw [Hq,IC,G8,ih,Nat.succ_mul,Nat.add_comm]
theorem op_rep:OpR X (HQ .Mult) E7:=by
 intro pins s σ H x y v u Q I rx ry h
 obtain ⟨l,k,xs,rfl,rfl,hH,h1,h2,hz,q⟩:=h
 cases rx
 obtain ⟨t,rfl⟩:=ry
 obtain ⟨z,its,n,r,hl,e⟩:=I.lstM hH
 have hlen:its.toArray.size * k.toNat≤sizeLine:=by rw [y_,← hl]; exact hz
 have hcap:¬ its.toArray.size * k.toNat > (2 ^ 63 - 1) / 8:=by
  have:(sizeLine:Nat)≤(2 ^ 63 - 1) / 8:=by decide
  omega
 have hfit:¬ (!Builtin.List.listFitsIndex k)=true:=by
  rw [fitsIndex_both h1 h2]
  exact on
 have hlong:¬ JU (its.toArray.size * k.toNat)=true:=by
  rw [sV hlen]
  exact on
 have hnew:ML (fun x1 x2=>x1 ++ x2) #[] (rl (if its.toArray.isEmpty=true then 0 else k.toNat) its.toArray)=(rl k.toNat its).flatten.toArray:=by
  have f0:∀ m:Nat,ML (fun x1 x2=>x1 ++ x2) #[] (rl m its.toArray)=(rl m its).flatten.toArray:=fun m=>by
   have:=jY its m []
   rw [Lh] at this
   exact this
  rw [f0]
  cases its with
  | nil=>simp
  | cons a r'=>rw [if_neg (by simp)]
 refine wpAny_binaryOp_repeat_ref (T:="list") (U:="int") (by decide) ⟨_,e,rfl⟩ (fun s'=>NE s' k t) noFill_list_mul F.fills_int_mul F.slot_int_rmul repeat_list F.slot_int_index.lookup
  (Jv F.slot_int_rmul (NE s k t) F.entry_int_rmul (F.args_int_rmul_2 _ _) (int___rmul___int_list k t l its.toArray n)
    ⟨e,rfl,⟨_,e,rfl⟩,Jv F.slot_list_mul ⟨_,e,rfl⟩ F.entry_list_mul (F.args_list_mul_2 _ _) (AutoListH.list___mul___list_int_3 l its.toArray n k t hfit hcap hlong) ⟨e,?_⟩⟩)
 rw [hnew]
 exact ⟨.ref _,_,I.lnew (t':=s.toks) (r.rep k.toNat) (by rw [wD,N8]; exact hz),rfl,q _ I.fresh⟩
end
section
variable {prog:Program} {w:x_} {A:u_} {E:Value→c_→Prop} {s:c_}
end
section
variable {X:Cx}
end
end L2
namespace Att
open PySem PySem.W PySem.Calls PyProof.Rows
theorem gu {P:M7} {h:Heap}:∀ (ns:List Int) (vs:List Value),WellAll P h vs (ns.map WData.int)→Np vs ns:=by
 intro ns
 induction ns with
 | nil =>
  intro vs w
  rw [JH] at w
  cases w
  exact .nil
 | cons n ns ih =>
  intro vs w
  rw [t_] at w
  cases w with
  | cons a b =>
   cases a
   exact .cons _ _ (ih _ b)
theorem pN {l:OpenLaw} {n:Nat} (hn:l.most=some n) {P:M7} {h:Heap} {args:List WData} {vals:List Value}
 (hpre:l.row.toRowW.claim.pre args=true) (hwl:WellAll P h vals args) :
 ∃ a vs ns,vals=[q_ a]∧args=[WData.list (ns.map WData.int)]∧h.get? a=some { cls:=.type "list",data:=.seq vs.toArray }∧Np vs ns∧ns.length≤n:=by
 have hsh:WShape.hasAll [] args [.list .int]=true:=(pre_splitW hpre).1
 have hc:l.pre.holds [] { args:=args }=true:=(pre_splitW hpre).2
 obtain ⟨d,r,rfl,h1,h2⟩:=hasAllW_cons hsh
 obtain rfl:=hasAllW_nil h2
 obtain ⟨xs,rfl,h3⟩:=hasW_list h1
 obtain ⟨ns,rfl⟩:=items_int h3
 have hlen:ns.length≤n:=by
  unfold OpenLaw.pre at hc
  have h4:(WTm.not (.lt (.lit (.int (n:Int))) (.len (.arg 0)))).holds [] { args:=[.list (ns.map .int)] }=true:=by
   have h4:=(holds_andW hc).1
   rw [hn] at h4
   exact h4
  have h5:=condW_of h4 (w_not (w_lt w_lit (w_len_list (w_arg rfl))))
  rw [Gw] at h5
  refine Oq fun q=>?_
  have q':(n:Int) < ((ns.length:Nat):Int):=by omega
  first
   | (rw [decide_eq_true q'] at h5; exact absurd h5 (by decide))
   | (simp at h5; omega)
 cases hwl with
 | cons w1 w2 =>
  cases w2
  cases w1 with
  | list ho hall=>exact ⟨_,_,ns,rfl,rfl,ho,gu ns _ hall,hlen⟩
theorem pO (l:OpenLaw) (args:List WData):l.row.toRowW.claim.post args (.bool true) args=true :=
 postW_of (r:=l.row.toRowW) (X:=(true == true))
  (show WShape.has [] (.bool true) .bool=true by first | rfl | decide | simp [WShape.has,WShape.arms,WShape.armsAll])
  (show (WTm.eq .res (.lit (.bool true))).value [] { args:=args,res:=some (.bool true),after:=args }=some (.bool (true == true)) from w_eq_bool (w_res rfl) w_lit) rfl
theorem attach_call {l:OpenLaw} {n:Nat} {q:Program} {loose:List Str} {XP:(Str→Option Value)→Heap→Prop} {YP:x_→Heap→Prop} {d:DefRec}
 (hn:l.most=some n) (hdf:d.params.defaults=[])
 (call:∀ (w:x_) (s₀ s₁:c_) (mg mb:Str→Option Value) (fa:Addr) (o:Obj) (pm cd doc:Value) (a:Addr) (vs:List Value) (ns:List Int),
   Ground q loose [] XP w s₀ mg mb s₁.heap→YP w s₁.heap →
   s₁.heap.get? fa=some o→o.data=.func (docDef d.name d.params d.body d.scope pm cd doc)→s₁.heap.CodeRec cd d.name→mg d.name=some (.ref fa) →
   s₁.heap.get? a=some { cls:=.type "list",data:=.seq vs.toArray }→Np vs ns→ns.length≤n→s₁.gens=#[] →
   Kq (pi l.prog w) Nk (.call (.ref fa) ⟨[.ref a],[]⟩) (fun r s'=>r=.ok (.ret (.bool true))∧OldK s₁.heap s'.heap∧s'.os=s₁.os∧Lm s'.gens) s₁) :
 WalkO q loose XP YP l.row.toRowW d [] (fun f vs=>OM f vs):=by
 intro w s₀ s₁ mg mb G Y fa o pm cd doc dV kV ho hd hcd hD hmg hg args vals as hpre hlay hrd hwl hlo
 obtain rfl:dV=.none:=Dflts.none hD hdf
 obtain rfl:kV=.none:=Dflts.noKw hD
 obtain ⟨a,vs,ns,rfl,rfl,hobj,hints,hlen⟩:=pN hn hpre hwl
 refine enter_call (JE (call w s₀ s₁ mg mb fa o pm cd doc a vs ns G Y ho (fd_plain hd) hcd hmg hobj hints hlen hg) fun r s' hq=>?_)
 obtain ⟨rfl,h2,h3,h4⟩:=hq
 exact ⟨.inl ⟨.bool true,.bool true,[],rfl,fun _=>rfl,.bool true,pO l _,fun _=>⟨Jt,fun _ hm=>(nomatch hm)⟩⟩,h2,h3,h4⟩
section
variable {prog:Program} {w:x_} {A:u_} {E:Value→c_→Prop} {s:c_} {K:Frag}
def Fa (h:Heap) (L d:Addr):List (Addr×Obj):=(h_ h.objs.size).filterMap fun a=>if a=L∨a=d then none else (h.get? a).map fun o=>(a,o)
end
end Att
namespace L2
open PySem PySem.Spec PyProof.Rows
theorem db:∀ {vs:List Value} {ns:List Int},Np vs ns→Vals (ns.map V.int) vs
 | _,_,.nil=>.nil
 | _,_,.cons n t h=>.cons ⟨t,rfl⟩ (db h)
def Dd (H:Hp):Prop:=∀ b,H b=none∨∃ o xs,H b=some (.frz o (.lst xs))
theorem sW {P:Program} {w:x_} {K:ck} {mg mb:Str→Option Value} {CX:CXT} {k:Nat} {fa a:Addr} {fd:Ha} {x:Str} {sp:Sp} {s₁:c_} {vs:List Value} {ns:List Int}
 (KX:K.In s₁.heap) (hns:s₁.heap.Ns w_ mg) (hb:s₁.heap.Ns NF mb) (hbb:∀ x:Str,x≠"__name__"→mb x=Hk x) (hlim:s₁.heap.NoLimit) (hg:s₁.gens=#[])
 (ha:s₁.heap.get? a=some { cls:=.type "list",data:=.seq vs.toArray }) (hi:Np vs ns) (hl:ns.length≤sizeLine) (hr:Room k Nk)
 (F:∀ base:Heap,K.In base→base.Ns w_ mg→FnOk P w K mg base CX k fa fd [x] sp) (hbind:∀ (s:c_) (u:Value),LS s fd ⟨[u],[]⟩ [(x,u)])
 (hsp:∀ H:Hp,Dd H→SqL K H a (ns.map V.int)→sp [.ref a] H (fun v _=>v=.bl true) fun _ _ _=>False)
 (hCX:∀ H e s',CX [] H s₁ (fun _ _ _=>False) e s'→False) :
 Kq (pi P w) Nk (.call (.ref fa) ⟨[.ref a],[]⟩) (fun r s'=>r=.ok (.ret (.bool true))∧OldK s₁.heap s'.heap∧s'.os=s₁.os∧Lm s'.gens) s₁:=by
 have rv:=db hi
 have lenV:=hi.length
 have core:∀ H:Hp,Dd H→SqL K H a (ns.map V.int)→HOk P w H s₁.heap→(∀ b,H b≠none→b=a)→(H a≠none→K.lookup a=none) →
  Kq (pi P w) Nk (.call (.ref fa) ⟨[.ref a],[]⟩) (fun r s'=>r=.ok (.ret (.bool true))∧OldK s₁.heap s'.heap∧s'.os=s₁.os∧Lm s'.gens) s₁:=by
  intro H hO hS hok hA hK
  have base_of:∀ {b:Addr} {o:Obj},s₁.heap.get? b=some o→H b=none→(sM s₁.heap H).get? b=some o:=fun e n=>sN e n
  have noA:∀ {b:Addr} {o:Obj} {es:Array DictEntry} {ep:Nat},s₁.heap.get? b=some o→o.data=.dict es ep→H b=none:=fun {b o es ep} e d=>by
   cases q:H b with
   | none=>rfl
   | some u =>
    have e':b=a:=hA b (by rw [q]; simp)
    subst e'
    rw [ha] at e; cases e
    have d':Data.seq vs.toArray _=Nn es ep:=d
    cases d'
  have nsK:∀ {b:Addr} {m:Str→Option Value},s₁.heap.Ns b m→(sM s₁.heap H).Ns b m:=fun {b m} ⟨o,es,ep,e,d,r⟩=>⟨o,es,ep,base_of e (noA e d),d,r⟩
  have hKb:K.In (sM s₁.heap H):=fun b o e=>base_of (KX b o e) (by
   cases q:H b with
   | none=>rfl
   | some u =>
    have e':b=a:=hA b (by rw [q]; simp)
    subst e'
    rw [hK (by rw [q]; simp)] at e; cases e)
  have hM:Mod K mg (sM s₁.heap H):=⟨hKb,nsK hns,⟨mb,nsK hb,hbb⟩,let ⟨mc,h1,h2⟩:=hlim; ⟨mc,nsK h1,h2⟩⟩
  have e0:Env0 P w K mg (sM s₁.heap H) Nk [] s₁ H:=⟨rfl,hM,fun b o e=>wn e,JG (ph _ _),trivial,fun b hb=>absurd (show b∈([]:List Addr) from hb) (by simp),hok,.of_eq hg⟩
  refine JE ((F _ hKb (nsK hns)).run Nk [] s₁ H ⟨[.ref a],[]⟩ [.ref a] [.ref a] _ _ hr e0 (hbind s₁ (.ref a)) (.cons rfl .nil) (hsp H hO hS)) fun r s' h=>?_
  cases r with
  | error e=>exact (hCX H e s' h).elim
  | ok fl =>
   cases fl with
   | next=>exact Gz h
   | brk=>exact Gz h
   | cont=>exact Gz h
   | ret u =>
    obtain ⟨v,H',os,bare,un,hok',r',q⟩:=h
    have q':v=.bl true:=q
    subst q'
    obtain rfl:u=Hy true:=r'
    refine ⟨rfl,OldK.of_keep fun b o e=>?_,os,bare⟩
    cases q:H b with
    | none=>exact un.keep b o e q (by intro z; exact absurd (show b∈([]:List Addr) from z) (by simp)) (by simp)
    | some u =>
     rcases hO b with z | ⟨ob,xs,z⟩
     · rw [q] at z; cases z
     · have z2:=un.frzs b ob _ z
       obtain ⟨e1,_⟩:=hok b _ z
       obtain ⟨e2,_⟩:=hok' b _ z2
       rw [e] at e1; cases e1
       exact e2
 cases hk:K.lookup a with
 | some o =>
  have e:=KX a o hk
  rw [ha] at e
  cases e
  refine core (fun _=>none) (fun _=>.inl rfl) (.inr ⟨_,vs.toArray,_,hk,rfl,rfl,rfl,by rw [y_,lenV]; exact hl,by simpa using rv⟩) (fun b u z=>by have z':(none:Option HO)=some u:=z; cases z') (fun b z=>absurd rfl z) fun z=>absurd rfl z
 | none =>
  refine core (fun b=>if b=a then some (.frz { cls:=.type "list",data:=.seq vs.toArray } (.lst (ns.map V.int))) else none) (fun b=>?_) (.inl (.inr ⟨{ cls:=.type "list",data:=.seq vs.toArray },if_pos rfl⟩)) (fun b u z=>?_) (fun b z=>?_) fun _=>hk
  · by_cases hb:b=a
    · exact .inr ⟨_,_,if_pos hb⟩
    · exact .inl (if_neg hb)
  · by_cases hb:b=a
    · have z':=(if_pos hb).symm.trans z
      cases z'
      subst hb
      exact ⟨ha,by rw [Gw]; exact hl,vs,_,rv,ha⟩
    · have z':=(if_neg hb).symm.trans z
      cases z'
  · by_cases hb:b=a
    · exact hb
    · exact absurd (if_neg hb) z
theorem walk_of {l:MR} {n k:Nat} {q:Program} {loose:List Str} {XP:(Str→Option Value)→Heap→Prop} {YP:x_→Heap→Prop} {d:DefRec} {K:M7→ck} {CX:x_→CXT} {sp:x_→Sp} {x:Str}
 (hn:l.most=some n) (hn2:n≤sizeLine) (hdf:d.params.defaults=[]) (hr:Room k Nk)
 (hY:∀ (w:x_) (h:Heap),YP w h→(K w.params).In h)
 (F:∀ (w:x_) (mg:Str→Option Value) (fa:Addr) (h:Heap),(K w.params).In h→h.Ns w_ mg→mg d.name=some (.ref fa) →
   ∃ fd:Ha,(∀ (s:c_) (u:Value),LS s fd ⟨[u],[]⟩ [(x,u)]) ∧
    ∀ base:Heap,(K w.params).In base→base.Ns w_ mg→FnOk l.prog w (K w.params) mg base (CX w) k fa fd [x] (sp w))
 (hsp:∀ (w:x_) (H:Hp) (a:Addr) (ns:List Int),ns.length≤n→Dd H→SqL (K w.params) H a (ns.map V.int)→sp w [.ref a] H (fun v _=>v=.bl true) fun _ _ _=>False)
 (hCX:∀ (w:x_) (H:Hp) (s:c_) (e:Value) (s':c_),CX w [] H s (fun _ _ _=>False) e s'→False) :
 O1 q loose XP YP l.row.toRowW d [] (fun f vs=>OM f vs):=by
 refine Att.attach_call hn hdf fun w s₀ s₁ mg mb fa o pm cd doc a vs ns G Y ho hd hcd hmg hobj hints hlen hg=>?_
 have KX:=hY w _ Y
 obtain ⟨fd,hb,hF⟩:=F w mg fa _ KX G.T.g hmg
 exact sW KX G.T.g G.T.b G.T.builtins G.T.nolimit hg hobj hints (GG hlen hn2) hr hF hb (fun H hO hS=>hsp w H a ns hlen hO hS) fun H e s'=>hCX w H s₁ e s'
def fu (s:Stmt):Arguments:=match s with
 | .FunctionDef _ a _ _ _ _ _ _ _ _=>a
 | _=>{ posonlyargs:=[],args:=[],vararg:=none,kwonlyargs:=[],kw_defaults:=[],kwarg:=none,defaults:=[] }
def bG (s:Stmt):List Stmt:=match s with
 | .FunctionDef _ _ b _ _ _ _ _ _ _=>b
 | _=>[]
def aq (s:Stmt):Scope:=match s with
 | .FunctionDef _ _ _ _ _ _ sc _ _ _=>sc
 | _=>{ kind:=.function,names:=[],isGenerator:=false,isCoroutine:=false }
abbrev CX0:CXT:=fun _ _ _ _ _ _=>False
abbrev E0:XK:=fun _ _ _=>False
theorem zw {X:Cx}:mI CX0 X E0:=fun _ _ _ _ _ _ _ h=>h.elim
structure Fun (K:ck) (x qual:Str) (st:Stmt) (f:Addr) (fd:Ha):Prop where
 ex:∃ (oc:Value) (od:Option Addr) (kV doc pm:Value) (an:Option Addr) (cdv ct:Value) (osl:Array (Option Value)),
  fd=I_ x qual (fu st) (bG st) (aq st) .none kV doc pm an cdv ct∧K.lookup f=some ⟨oc,od,.func fd,osl⟩∧Lw K cdv qual=true
 kp:Hv K (.ref f)=true
section
variable {P:Program} {w:x_} {K:ck} {mg:Str→Option Value} {base:Heap}
theorem Fun.ok {x qual:Str} {st:Stmt} {f:Addr} {fd:Ha} {N ps:List Str} {k:Nat} {sp:Sp} (F:Fun K x qual st f fd) (S:da N ps (aq st)) (len:∀ vs H Q E,sp vs H Q E→vs.length=ps.length)
 (hbody:∀ (cdv:Value) (A:u_) (outer:List Env) (s:c_) (H:Hp) (vs:List V) (Q:VK) (E:XK),Room k (A.deeper (Kc qual (aq st) s.heap.objs.size f cdv))→sp vs H Q E →
   ∃ t,PSs (mJ CX0 P w K mg base N qual (aq st) f cdv A outer s H E).nox (bG st) t∧t { nx:=fun _ H'=>Q .non H',rt:=Q } (start N vs) H):FnOk P w K mg base CX0 (k + 1) f fd ps sp:=by
 obtain ⟨oc,od,kV,doc,pm,an,cdv,ct,osl,rfl,lk,hcd⟩:=F.ex
 refine zn lk hcd S len fun A outer s H vs Q E hr hsp=>?_
 obtain ⟨t,h,q⟩:=hbody cdv A outer s H vs Q E hr hsp
 exact ⟨t,h.nox,q⟩
theorem Fun.binds {x qual:Str} {st:Stmt} {f:Addr} {fd:Ha} {ps:List Str} (F:Fun K x qual st f fd)
 (h:∀ (kV doc pm:Value) (an:Option Addr) (cdv ct:Value) (us:List Value),us.length=ps.length→bindArgs (I_ x qual (fu st) (bG st) (aq st) .none kV doc pm an cdv ct) ⟨us,[]⟩=pure (ps.zip us)):Binds K fd ps []:=by
 obtain ⟨oc,od,kV,doc,pm,an,cdv,ct,osl,rfl,lk,hcd⟩:=F.ex
 exact .all (h kV doc pm an cdv ct)
theorem zx {x qual:Str} {st:Stmt} {f:Addr} {oc:Value} {od an:Option Addr} {osl:Array (Option Value)} {kV doc pm cdv ct:Value} (l:K.lookup f=some ⟨oc,od,.func (I_ x qual (fu st) (bG st) (aq st) .none kV doc pm an cdv ct),osl⟩)
 (c:Lw K cdv qual=true) (k:Hv K (.ref f)=true):Fun K x qual st f (I_ x qual (fu st) (bG st) (aq st) .none kV doc pm an cdv ct):=⟨⟨oc,od,kV,doc,pm,an,cdv,ct,osl,rfl,l,c⟩,k⟩
end
section
variable {X:Cx}
end
theorem vo {A B:Prop} (h:B):if false=true then A else B:=by
 rw [if_neg on]
 exact h
theorem vp {A B:Prop} (h:A):if true=true then A else B:=by
 rw [if_pos rfl]
 exact h
def Same (H H':Hp):Prop:=∀ b o,H b=some o→H' b=some o
theorem Same.refl (H:Hp):Same H H:=fun _ _ h=>h
theorem Same.trans {H H1 H2:Hp} (a:Same H H1) (b:Same H1 H2):Same H H2:=fun c o h=>b c o (a c o h)
theorem Same.free {H H':Hp} (e:Same H H') {l:Addr} (h:H' l=He):H l=He:=by
 cases q:H l with
 | none=>rfl
 | some o =>
  rw [e l o q] at h
  cases h
theorem Same.seq {K:ck} {H H':Hp} {a:Addr} {xs:List V} (e:Same H H') (h:SqL K H a xs):SqL K H' a xs:=by
 rcases h with (h | ⟨o,h⟩) | h
 · exact .inl (.inl (e _ _ h))
 · exact .inl (.inr ⟨o,e _ _ h⟩)
 · exact .inr h
end L2
namespace FD
open PySem PySem.Spec PyProof.Rows L2
inductive Dv where
 | non | bl (b:Bool) | int (i:Int) | str (x:Str) | tup (xs:List Dv) | lst (xs:List Dv) | scr (ns:List Int) | exn (c:Nat)
def xnm:Nat→Str
 | 0=>"NoName" | 1=>"NoTable" | 2=>"NoPath" | 3=>"NoAsk" | 4=>"NoNote" | 5=>"NoJar" | 6=>"NoNumber" | 7=>"NoText" | 8=>"NoStep" | _=>"JarError"
mutual
def Rep (K:ck) (H:Hp):Dv→V→Prop
 | .non,v=>v=.non
 | .bl b,v=>v=.bl b
 | .int i,v=>v=.int i
 | .str x,v=>v=.str x
 | .tup ds,v=>∃ a xs,v=.ref a∧H a=some (.tup xs)∧Reps K H ds xs
 | .lst ds,v=>∃ a xs,v=.ref a∧H a=some (.lst xs)∧Reps K H ds xs
 | .scr ns,v=>∃ a,v=.ref a∧SqL K H a (ns.map V.int)
 | .exn c,v=>∃ a o u C,v=.ref a∧H a=some (.frz o u)∧o.cls=.ref C∧HW K w_ (xnm c)=some (some (.ref C))
def Reps (K:ck) (H:Hp):List Dv→List V→Prop
 | [],vs=>vs=[]
 | d :: ds,vs=>∃ v us,vs=v :: us∧Rep K H d v∧Reps K H ds us
end
section
variable {K:ck} {H H':Hp}
mutual
theorem Rep.mono (e:Same H H'):∀ (d:Dv) (v:V),Rep K H d v→Rep K H' d v
 | .non,_,h=>h
 | .bl _,_,h=>h
 | .int _,_,h=>h
 | .str _,_,h=>h
 | .tup ds,v,h=>by
  obtain ⟨a,xs,r,h,q⟩:∃ a xs,v=.ref a∧H a=some (.tup xs)∧Reps K H ds xs:=h
  exact ⟨a,xs,r,e _ _ h,Reps.mono e ds xs q⟩
 | .lst ds,v,h=>by
  obtain ⟨a,xs,r,h,q⟩:∃ a xs,v=.ref a∧H a=some (.lst xs)∧Reps K H ds xs:=h
  exact ⟨a,xs,r,e _ _ h,Reps.mono e ds xs q⟩
 | .scr ns,v,h=>by
  obtain ⟨a,r,h⟩:∃ a,v=.ref a∧SqL K H a (ns.map V.int):=h
  exact ⟨a,r,e.seq h⟩
 | .exn c,v,h=>by
  obtain ⟨a,o,u,C,r,h,q⟩:∃ a o u C,v=.ref a∧H a=some (.frz o u)∧o.cls=.ref C∧HW K w_ (xnm c)=some (some (.ref C)):=h
  exact ⟨a,o,u,C,r,e _ _ h,q⟩
theorem Reps.mono (e:Same H H'):∀ (ds:List Dv) (vs:List V),Reps K H ds vs→Reps K H' ds vs
 | [],_,h=>h
 | d :: ds,vs,h=>by
  obtain ⟨v,us,r,h,q⟩:∃ v us,vs=v :: us∧Rep K H d v∧Reps K H ds us:=h
  exact ⟨v,us,r,Rep.mono e d v h,Reps.mono e ds us q⟩
end
theorem Reps.nil:Reps K H [] []:=rfl
theorem Reps.cons {d ds v vs} (h:Rep K H d v) (t:Reps K H ds vs):Reps K H (d :: ds) (v :: vs):=⟨v,vs,rfl,h,t⟩
theorem Reps.length:∀ {ds:List Dv} {vs:List V},Reps K H ds vs→vs.length=ds.length
 | [],vs,h=>by cases (show vs=[] from h); rfl
 | d :: ds,vs,h=>by
  obtain ⟨v,us,r,_,q⟩:∃ v us,vs=v :: us∧Rep K H d v∧Reps K H ds us:=h
  subst r
  show us.length + 1=ds.length + 1
  rw [Reps.length q]
theorem Reps.get:∀ {ds:List Dv} {vs:List V} {i:Nat} {v:V},Reps K H ds vs→vs[i]?=some v→∃ d,ds[i]?=some d∧Rep K H d v
 | [],vs,i,v,h,e=>by cases (show vs=[] from h); simp at e
 | d :: ds,vs,i,v,h,e=>by
  obtain ⟨v',us,r,h',q⟩:∃ v us,vs=v :: us∧Rep K H d v∧Reps K H ds us:=h
  subst r
  cases i with
  | zero=>simp at e; subst e; exact ⟨d,rfl,h'⟩
  | succ i =>
   obtain ⟨d',e',r'⟩:=Reps.get (i:=i) q (by simpa using e)
   exact ⟨d',by simpa using e',r'⟩
theorem Reps.get':∀ {ds:List Dv} {vs:List V} {i:Nat} {d:Dv},Reps K H ds vs→ds[i]?=some d→∃ v,vs[i]?=some v∧Rep K H d v
 | [],vs,i,v,h,e=>by simp at e
 | d :: ds,vs,i,d0,h,e=>by
  obtain ⟨v',us,r,h',q⟩:∃ v us,vs=v :: us∧Rep K H d v∧Reps K H ds us:=h
  subst r
  cases i with
  | zero=>simp at e; subst e; exact ⟨v',rfl,h'⟩
  | succ i =>
   obtain ⟨d',e',r'⟩:=Reps.get' (i:=i) q (by simpa using e)
   exact ⟨d',by simpa using e',r'⟩
theorem Reps.append:∀ {ds es:List Dv} {vs us:List V},Reps K H ds vs→Reps K H es us→Reps K H (ds ++ es) (vs ++ us)
 | [],es,vs,us,h,q=>by cases (show vs=[] from h); exact q
 | d :: ds,es,vs,us,h,q=>by
  obtain ⟨v',vs',r,h',t⟩:∃ v us,vs=v :: us∧Rep K H d v∧Reps K H ds us:=h
  subst r
  exact ⟨v',vs' ++ us,rfl,h',Reps.append t q⟩
theorem Reps.take:∀ {ds:List Dv} {vs:List V} (n:Nat),Reps K H ds vs→Reps K H (ds.take n) (vs.take n)
 | ds,vs,0,_=>by simp [Reps]
 | [],vs,n + 1,h=>by cases (show vs=[] from h); exact rfl
 | d :: ds,vs,n + 1,h=>by
  obtain ⟨v',vs',r,h',t⟩:∃ v us,vs=v :: us∧Rep K H d v∧Reps K H ds us:=h
  subst r
  exact ⟨v',vs'.take n,rfl,h',Reps.take n t⟩
theorem Reps.drop:∀ {ds:List Dv} {vs:List V} (n:Nat),Reps K H ds vs→Reps K H (ds.drop n) (vs.drop n)
 | ds,vs,0,h=>h
 | [],vs,n + 1,h=>by cases (show vs=[] from h); exact rfl
 | d :: ds,vs,n + 1,h=>by
  obtain ⟨v',vs',r,h',t⟩:∃ v us,vs=v :: us∧Rep K H d v∧Reps K H ds us:=h
  subst r
  exact Reps.drop n t
theorem Rep.lstE {ds:List Dv} {v:V} (h:Rep K H (.lst ds) v):∃ a xs,v=.ref a∧H a=some (.lst xs)∧Reps K H ds xs:=h
theorem Rep.tupE {ds:List Dv} {v:V} (h:Rep K H (.tup ds) v):∃ a xs,v=.ref a∧H a=some (.tup xs)∧Reps K H ds xs:=h
theorem Rep.exnE {c:Nat} {v:V} (h:Rep K H (.exn c) v):∃ a o u C,v=.ref a∧H a=some (.frz o u)∧o.cls=.ref C∧HW K w_ (xnm c)=some (some (.ref C)):=h
theorem Rep.scrE {ns:List Int} {v:V} (h:Rep K H (.scr ns) v):∃ a,v=.ref a∧SqL K H a (ns.map V.int):=h
end
theorem au {H:Hp} {p:Addr} (h:H p=none) (o:HO):Same H (upd H p o):=fun b u q=>by rw [ao (ar q h)]; exact q
abbrev Ev:=List (Option Dv)
structure Envs (K:ck) (H:Hp) (σ:L2.St) (ρ:Ev):Prop where
 len:σ.length=ρ.length
 at':∀ (i:Nat) (d:Dv),ρ[i]?=some (some d)→∃ v,σ[i]?=some (some v)∧Rep K H d v
theorem Envs.mono {K:ck} {H H':Hp} {σ:L2.St} {ρ:Ev} (E:Envs K H σ ρ) (e:Same H H'):Envs K H' σ ρ :=
 ⟨E.len,fun i d h=>let ⟨v,h1,h2⟩:=E.at' i d h; ⟨v,h1,Rep.mono e d v h2⟩⟩
theorem Envs.set {K:ck} {H:Hp} {σ:L2.St} {ρ:Ev} {i:Nat} {d:Dv} {v:V} (E:Envs K H σ ρ) (r:Rep K H d v):Envs K H (σ.set i (some v)) (ρ.set i (some d)):=by
 refine ⟨by rw [GQ,GQ]; exact E.len,fun j d' h=>?_⟩
 by_cases hj:i=j
 · subst hj
   by_cases hl:i < ρ.length
   · rw [B_ hl] at h
     cases h
     exact ⟨v,by rw [B_ (by rw [E.len]; exact hl)],r⟩
   · rw [GE (by rw [GQ]; omega)] at h
     cases h
 · rw [uk hj] at h
   rw [uk hj]
   exact E.at' j d' h
def fgt (js:List Nat) (ρ:Ev):Ev:=js.foldl (fun r j=>r.set j none) ρ
theorem Envs.fgt1 {K:ck} {H:Hp} {σ:L2.St} {ρ:Ev} (j:Nat) (E:Envs K H σ ρ):Envs K H σ (ρ.set j none):=by
 refine ⟨by rw [GQ]; exact E.len,fun i d h=>?_⟩
 by_cases hj:j=i
 · subst hj
   by_cases hl:j < ρ.length
   · rw [B_ hl] at h
     cases h
   · rw [GE (by rw [GQ]; omega)] at h
     cases h
 · rw [uk hj] at h
   exact E.at' i d h
theorem Envs.fgt {K:ck} {H:Hp} {σ:L2.St}:∀ (js:List Nat) {ρ:Ev},Envs K H σ ρ→Envs K H σ (fgt js ρ)
 | [],_,E=>E
 | j :: js,_,E=>Envs.fgt js (E.fgt1 j)
inductive Rs (α:Type) where
 | ok (a:α)
 | exc (c:Nat)
inductive Fl where
 | nx (ρ:Ev)
 | rt (d:Dv)
 | exc (c:Nat)
def Fly (N:Addr→Prop) (H:Hp) (e:Addr) (cls:Value) (h:Heap):Prop:=H e=none∧N e∧∃ oe vs a0,h.get? e=some oe∧oe.cls=cls∧oe.data=.fields vs∧vs[0]?=some a0 ∧
 (vs[1]?=some .none∨∃ T oT ts,vs[1]?=some (.ref T)∧T≠e∧H T=none∧N T∧h.get? T=some oT∧oT.data=.fields ts∧ts[3]?=some .none)
def De (X:Cx) (a:Addr):Prop:=X.s₀.heap.get? a=none∧∀ p∈X.pn,p.1≠a
def Df (X:Cx) (H:Hp) (c:Nat) (e:Value) (s:c_):Prop:=∃ a C,e=.ref a∧HW X.K w_ (xnm c)=some (some (.ref C))∧Fly (De X) H a (.ref C) s.heap
def XW (X:Cx) (c:Nat) (H:Hp):Prop:=∀ pins σ H' s e,Same H H'→Inv X pins σ H' s→Df X H' c e s→X.xe e s
theorem XW.mono {X:Cx} {c:Nat} {H H':Hp} (h:XW X c H) (e:Same H H'):XW X c H':=fun pins σ H1 s x e1 I q=>h pins σ H1 s x (e.trans e1) I q
def Out (X:Cx) (H:Hp) (o:Option (Rs Dv)) (Q:VK):Prop:=match o with
 | none=>False
 | some (.exc c)=>XW X c H
 | some (.ok d)=>∀ v H',Same H H'→Rep X.K H' d v→Q v H'
def OutB (X:Cx) (H:Hp) (o:Option (Rs Bool)) (Q:Bool→Hp→Prop):Prop:=match o with
 | none=>False
 | some (.exc c)=>XW X c H
 | some (.ok d)=>∀ H',Same H H'→Q d H'
def OutA (X:Cx) (H:Hp) (o:Option (Rs (List Dv))) (Q:List V→Hp→Prop):Prop:=match o with
 | none=>False
 | some (.exc c)=>XW X c H
 | some (.ok ds)=>∀ vs H',Same H H'→Reps X.K H' ds vs→Q vs H'
def OutS (X:Cx) (H:Hp) (o:Option Fl) (D:mD):Prop:=match o with
 | none=>False
 | some (.exc c)=>XW X c H
 | some (.rt d)=>∀ v H',Same H H'→Rep X.K H' d v→D.rt v H'
 | some (.nx ρ)=>∀ σ H',Same H H'→Envs X.K H' σ ρ→D.nx σ H'
def bnd {α β:Type} (o:Option (Rs α)) (k:α→Option (Rs β)):Option (Rs β):=match o with
 | none=>none
 | some (.exc c)=>some (.exc c)
 | some (.ok a)=>k a
def c9 {α:Type} (o:Option (Rs α)) (k:α→Option Fl):Option Fl:=match o with
 | none=>none
 | some (.exc c)=>some (.exc c)
 | some (.ok a)=>k a
def sq (o:Option Fl) (k:Ev→Option Fl):Option Fl:=match o with
 | some (.nx ρ)=>k ρ
 | o=>o
section
variable {X:Cx} {H H':Hp} {Q:VK} {QB:Bool→Hp→Prop} {QA:List V→Hp→Prop} {D:mD}
theorem Out.mono (e:Same H H'):∀ {o:Option (Rs Dv)},Out X H o Q→Out X H' o Q
 | none,h=>h
 | some (.exc _),h=>XW.mono h e
 | some (.ok _),h=>fun v H1 e1 r=>h v H1 (e.trans e1) r
theorem OutB.mono (e:Same H H'):∀ {o:Option (Rs Bool)},OutB X H o QB→OutB X H' o QB
 | none,h=>h
 | some (.exc _),h=>XW.mono h e
 | some (.ok _),h=>fun H1 e1=>h H1 (e.trans e1)
theorem OutA.mono (e:Same H H'):∀ {o:Option (Rs (List Dv))},OutA X H o QA→OutA X H' o QA
 | none,h=>h
 | some (.exc _),h=>XW.mono h e
 | some (.ok _),h=>fun v H1 e1 r=>h v H1 (e.trans e1) r
theorem OutS.mono (e:Same H H'):∀ {o:Option Fl},OutS X H o D→OutS X H' o D
 | none,h=>h
 | some (.exc _),h=>XW.mono h e
 | some (.rt _),h=>fun v H1 e1 r=>h v H1 (e.trans e1) r
 | some (.nx _),h=>fun v H1 e1 r=>h v H1 (e.trans e1) r
theorem Out.bind {o:Option (Rs Dv)} {k:Dv→Option (Rs Dv)} {P:VK} (h:Out X H (bnd o k) Q) (hp:∀ d v H',Same H H'→Rep X.K H' d v→Out X H' (k d) Q→P v H'):Out X H o P:=by
 match o,h with
 | some (.exc _),h=>exact h
 | some (.ok d),h=>exact fun v H1 e r=>hp d v H1 e r (Out.mono e h)
theorem Out.bindB {o:Option (Rs Dv)} {k:Dv→Option (Rs Bool)} {P:VK} (h:OutB X H (bnd o k) QB) (hp:∀ d v H',Same H H'→Rep X.K H' d v→OutB X H' (k d) QB→P v H'):Out X H o P:=by
 match o,h with
 | some (.exc _),h=>exact h
 | some (.ok d),h=>exact fun v H1 e r=>hp d v H1 e r (OutB.mono e h)
theorem Out.bindA {o:Option (Rs Dv)} {k:Dv→Option (Rs (List Dv))} {P:VK} (h:OutA X H (bnd o k) QA) (hp:∀ d v H',Same H H'→Rep X.K H' d v→OutA X H' (k d) QA→P v H'):Out X H o P:=by
 match o,h with
 | some (.exc _),h=>exact h
 | some (.ok d),h=>exact fun v H1 e r=>hp d v H1 e r (OutA.mono e h)
theorem Out.bindS {o:Option (Rs Dv)} {k:Dv→Option Fl} {P:VK} (h:OutS X H (c9 o k) D) (hp:∀ d v H',Same H H'→Rep X.K H' d v→OutS X H' (k d) D→P v H'):Out X H o P:=by
 match o,h with
 | some (.exc _),h=>exact h
 | some (.ok d),h=>exact fun v H1 e r=>hp d v H1 e r (OutS.mono e h)
theorem OutB.bind {o:Option (Rs Bool)} {k:Bool→Option (Rs Dv)} {P:Bool→Hp→Prop} (h:Out X H (bnd o k) Q) (hp:∀ b H',Same H H'→Out X H' (k b) Q→P b H'):OutB X H o P:=by
 match o,h with
 | some (.exc _),h=>exact h
 | some (.ok d),h=>exact fun H1 e=>hp d H1 e (Out.mono e h)
theorem OutB.bindB {o:Option (Rs Bool)} {k:Bool→Option (Rs Bool)} {P:Bool→Hp→Prop} (h:OutB X H (bnd o k) QB) (hp:∀ b H',Same H H'→OutB X H' (k b) QB→P b H'):OutB X H o P:=by
 match o,h with
 | some (.exc _),h=>exact h
 | some (.ok d),h=>exact fun H1 e=>hp d H1 e (OutB.mono e h)
theorem OutB.bindS {o:Option (Rs Bool)} {k:Bool→Option Fl} {P:Bool→Hp→Prop} (h:OutS X H (c9 o k) D) (hp:∀ b H',Same H H'→OutS X H' (k b) D→P b H'):OutB X H o P:=by
 match o,h with
 | some (.exc _),h=>exact h
 | some (.ok d),h=>exact fun H1 e=>hp d H1 e (OutS.mono e h)
theorem OutA.bind {o:Option (Rs (List Dv))} {k:List Dv→Option (Rs Dv)} {P:List V→Hp→Prop} (h:Out X H (bnd o k) Q) (hp:∀ ds vs H',Same H H'→Reps X.K H' ds vs→Out X H' (k ds) Q→P vs H'):OutA X H o P:=by
 match o,h with
 | some (.exc _),h=>exact h
 | some (.ok d),h=>exact fun v H1 e r=>hp d v H1 e r (Out.mono e h)
theorem OutA.bindA {o:Option (Rs (List Dv))} {k:List Dv→Option (Rs (List Dv))} {P:List V→Hp→Prop} (h:OutA X H (bnd o k) QA) (hp:∀ ds vs H',Same H H'→Reps X.K H' ds vs→OutA X H' (k ds) QA→P vs H'):OutA X H o P:=by
 match o,h with
 | some (.exc _),h=>exact h
 | some (.ok d),h=>exact fun v H1 e r=>hp d v H1 e r (OutA.mono e h)
end
abbrev FnE:=Ev→Option (Rs Dv)
abbrev FnB:=Ev→Option (Rs Bool)
abbrev FnA:=Ev→Option (Rs (List Dv))
abbrev FnS:=Ev→Option Fl
def tF (X:Cx) (f:FnE):TE:=fun σ H Q=>∃ ρ,Envs X.K H σ ρ∧Out X H (f ρ) Q
def tT (X:Cx) (f:FnB):TT:=fun σ H Q=>∃ ρ,Envs X.K H σ ρ∧OutB X H (f ρ) Q
def tA (X:Cx) (f:FnA):TA:=fun σ H Q=>∃ ρ,Envs X.K H σ ρ∧OutA X H (f ρ) Q
def tS (X:Cx) (f:FnS):TS:=fun D σ H=>∃ ρ,Envs X.K H σ ρ∧OutS X H (f ρ) D
structure FE (X:Cx) (e:Expr) (f:FnE):Prop where
 h:PE X e (tF X f)
structure FT (X:Cx) (e:Expr) (f:FnB):Prop where
 h:PT X e (tT X f)
structure FW (X:Cx) (e:Expr) (f:FnB):Prop where
 h:PW X e (tT X f)
structure FA (X:Cx) (es:List Expr) (f:FnA):Prop where
 h:PA X es (tA X f)
structure FS (X:Cx) (st:Stmt) (f:FnS):Prop where
 h:PS X st (tS X f)
structure FSs (X:Cx) (st:List Stmt) (f:FnS):Prop where
 h:PSs X st (tS X f)
section
variable {X:Cx} {a b c e:Expr} {es:List Expr} {fa fb fc:FnE} {pos:Pos}
theorem bO {t:TE} {f:FnE} (h:PE X e t) (w:∀ σ H Q ρ,Envs X.K H σ ρ→Out X H (f ρ) Q→t σ H Q):FE X e f :=
 ⟨fun pins s σ H Q I ⟨ρ,E,o⟩=>h pins s σ H Q I (w σ H Q ρ E o)⟩
theorem wE {t:TT} {f:FnB} (h:PT X e t) (w:∀ σ H Q ρ,Envs X.K H σ ρ→OutB X H (f ρ) Q→t σ H Q):FT X e f :=
 ⟨fun pins s σ H Q I ⟨ρ,E,o⟩=>h pins s σ H Q I (w σ H Q ρ E o)⟩
theorem zy {t:TT} {f:FnB} (h:PW X e t) (w:∀ σ H Q ρ,Envs X.K H σ ρ→OutB X H (f ρ) Q→t σ H Q):FW X e f :=
 ⟨fun wh pins s σ H Q I ⟨ρ,E,o⟩=>h wh pins s σ H Q I (w σ H Q ρ E o)⟩
theorem pP {st:Stmt} {t:TS} {f:FnS} (h:PS X st t) (w:∀ D σ H ρ,Envs X.K H σ ρ→OutS X H (f ρ) D→t D σ H):FS X st f :=
 ⟨fun pins s σ H D I ⟨ρ,E,o⟩=>h pins s σ H D I (w D σ H ρ E o)⟩
theorem vq {st:List Stmt} {t:TS} {f:FnS} (h:PSs X st t) (w:∀ D σ H ρ,Envs X.K H σ ρ→OutS X H (f ρ) D→t D σ H):FSs X st f :=
 ⟨fun pins s σ H D I ⟨ρ,E,o⟩=>h pins s σ H D I (w D σ H ρ E o)⟩
theorem FW.ft {f:FnB} (h:FW X e f):FT X e f:=⟨h.h _⟩
def ac (i:Nat):FnE:=fun ρ=>match ρ[i]? with
 | some (some d)=>some (.ok d)
 | _=>none
def fC (d:Dv):FnE:=fun _=>some (.ok d)
theorem zA (i:Nat) (h:PE X e (vf i)):FE X e (ac i):=bO h fun σ H Q ρ E o=>by
 unfold ac at o
 split at o
 · rename_i d hd
   obtain ⟨v,h1,h2⟩:=E.at' i d hd
   exact ⟨v,h1,o v H (.refl H) h2⟩
 · exact o.elim
theorem glb {x:Str} (h:X.env.kindOf x=some .globalImplicit):Gl X x:=h
theorem Dg (i:Nat) {x:Str} (hN:X.N[i]?=some x:=by kernel_rfl) (hv:X.env.scope.names.lookup x=some .local:=by kernel_rfl) (hd:(x == ("__debug__":Str))=false:=by kernel_rfl) (hcd:(x == ("__classdict__":Str))=false:=by kernel_rfl):FE X (.Name x pos) (ac i):=zA i (pk hN (.inl hv) hd hcd)
theorem Dh (i:Nat) {x:Str} (hN:X.N[i]?=some x:=by kernel_rfl) (hv:X.env.scope.names.lookup x=some .cell:=by kernel_rfl) (hd:(x == ("__debug__":Str))=false:=by kernel_rfl) (hcd:(x == ("__classdict__":Str))=false:=by kernel_rfl):FE X (.Name x pos) (ac i):=zA i (pk hN (.inr (.inl hv)) hd hcd)
theorem yO {d:Dv} {v:V} (h:PE X e (tC v)) (r:∀ K H,Rep K H d v):FE X e (fC d):=bO h fun _ H _ _ _ o=>o v H (.refl H) (r X.K H)
theorem zB {i j}:FE X (.Constant (.int i) j pos) (fC (.int i)):=yO y0 fun _ _=>rfl
theorem Di {b j}:FE X (.Constant (.bool b) j pos) (fC (.bl b)):=yO CM fun _ _=>rfl
theorem zE {j}:FE X (.Constant .none j pos) (fC .non):=yO y3 fun _ _=>rfl
theorem zF {x j}:FE X (.Constant (.str x) j pos) (fC (.str x)):=yO y4 fun _ _=>rfl
theorem wF {x:Str} {i:Int} {t:Tok} (hg:Gl X x) (hm:X.mg x=some (.int i t)) (hd:(x == ("__debug__":Str))=false:=by kernel_rfl):FE X (.Name x pos) (fC (.int i)):=yO (lr (v:=.int i) hg hm ⟨t,rfl⟩ hd) fun _ _=>rfl
theorem wG {x:Str} {i:Str} {t:Tok} (hg:Gl X x) (hm:X.mg x=some (.str i t)) (hd:(x == ("__debug__":Str))=false:=by kernel_rfl):FE X (.Name x pos) (fC (.str i)):=yO (lr (v:=.str i) hg hm ⟨t,rfl⟩ hd) fun _ _=>rfl
def f2 (g:Dv→Dv→Option (Rs Dv)) (fa fb:FnE):FnE:=fun ρ=>bnd (fa ρ) fun x=>bnd (fb ρ) fun y=>g x y
def GOp (X:Cx) (r:R2) (g:Dv→Dv→Option (Rs Dv)):Prop:=∀ dx dy x y H Q,Rep X.K H dx x→Rep X.K H dy y→Out X H (g dx dy) Q→r x y H Q
theorem two {r:R2} {g:Dv→Dv→Option (Rs Dv)} (hg:GOp X r g) {σ:L2.St} {H:Hp} {Q:VK} {ρ:Ev} (E:Envs X.K H σ ρ) (o:Out X H (f2 g fa fb ρ) Q):tOp r (tF X fa) (tF X fb) σ H Q :=
 ⟨ρ,E,Out.bind o fun dx x H1 e1 rx o1=>⟨ρ,E.mono e1,Out.bind o1 fun dy y H2 e2 ry o2=>hg dx dy x y H2 Q (Rep.mono e2 dx x rx) ry o2⟩⟩
theorem lB {op:Operator} {r:R2} {g:Dv→Dv→Option (Rs Dv)} (ho:OpR X (HQ op) r) (hg:GOp X r g) (ha:FE X a fa) (hb:FE X b fb):FE X (.BinOp a op b pos) (f2 g fa fb) :=
 bO (C0 ho ha.h hb.h) fun _ _ _ _ E o=>two hg E o
theorem jZ {op:CmpOp} {r:R2} {g:Dv→Dv→Option (Rs Dv)} (ho:OpR X (Gx op) r) (hg:GOp X r g) (ha:FE X a fa) (hb:FE X b fb) (hm:GJ op b=false):FE X (.Compare a [op] [b] pos) (f2 g fa fb) :=
 bO (wu ho ha.h hb.h hm) fun _ _ _ _ E o=>two hg E o
def toB:Dv→Option (Rs Bool)
 | .bl b=>some (.ok b)
 | _=>none
def fB (f:FnE):FnB:=fun ρ=>bnd (f ρ) toB
theorem mM {H:Hp} {d:Dv} {v:V} {QB:Bool→Hp→Prop} (r:Rep X.K H d v) (o:OutB X H (toB d) QB):∃ k,v=.bl k∧QB k H:=by
 cases d with
 | bl b=>exact ⟨b,r,o H (.refl H)⟩
 | _=>exact o.elim
theorem fL {op:CmpOp} {r:R2} {g:Dv→Dv→Option (Rs Dv)} (ho:OpR X (Gx op) r) (hg:GOp X r g) (ha:FE X a fa) (hb:FE X b fb) (hm:GJ op b=false):FT X (.Compare a [op] [b] pos) (fB (f2 g fa fb)) :=
 wE (wv ho ha.h hb.h hm) fun σ H Q ρ E o=>by
  show tOp r (tF X fa) (tF X fb) σ H _
  refine two hg E ?_
  exact Out.bindB o fun d v H' e r o'=>mM r o'
theorem zG (ha:FE X a fa) (he:∀ whole,isTrue a X.env whole=(do let v ← whole; standAt a.pos; OG [v] (truthy v)):=by intro _; kernel_rfl):FT X a (fB fa) :=
 wE (y6 ha.h he) fun σ H Q ρ E o=>⟨ρ,E,Out.bindB o fun d v H' e r o'=>mM r o'⟩
def ow (f g:FnB):FnB:=fun ρ=>bnd (f ρ) fun k=>if k then g ρ else some (.ok false)
def bOr (f g:FnB):FnB:=fun ρ=>bnd (f ρ) fun k=>if k then some (.ok true) else g ρ
def gw (f:FnB):FnB:=fun ρ=>bnd (f ρ) fun k=>some (.ok (!k))
variable {ga gb:FnB} {rest:List Expr}
theorem wH (ha:FT X a ga):FW X (.BoolOp .And [a] pos) ga:=⟨wp ha.h⟩
theorem zH (ha:FT X a ga):FW X (.BoolOp .Or [a] pos) ga:=⟨y8 ha.h⟩
theorem vt (ha:FT X a ga) (hb:FW X (.BoolOp .And (b :: rest) pos) gb):FW X (.BoolOp .And (a :: b :: rest) pos) (ow ga gb) :=
 zy (y9 ha.h hb.h) fun σ H Q ρ E o=>⟨ρ,E,OutB.bindB o fun k H1 e o'=>by
  cases k with
  | true=>exact vp ⟨ρ,E.mono e,o'⟩
  | false=>exact vo (o' H1 (.refl H1))⟩
theorem zI (ha:FT X a ga) (hb:FW X (.BoolOp .Or (b :: rest) pos) gb):FW X (.BoolOp .Or (a :: b :: rest) pos) (bOr ga gb) :=
 zy (CN ha.h hb.h) fun σ H Q ρ E o=>⟨ρ,E,OutB.bindB o fun k H1 e o'=>by
  cases k with
  | true=>exact vp (o' H1 (.refl H1))
  | false=>exact vo ⟨ρ,E.mono e,o'⟩⟩
theorem zJ (ha:FT X a ga):FT X (.UnaryOp .Not a pos) (gw ga) :=
 wE (za ha.h) fun σ H Q ρ E o=>⟨ρ,E,OutB.bindB o fun k H1 e o'=>o' H1 (.refl H1)⟩
def mO (f g:FnE):FnE:=fun ρ=>bnd (f ρ) fun x=>bnd (toB x) fun k=>if k then g ρ else some (.ok (.bl false))
def vOr (f g:FnE):FnE:=fun ρ=>bnd (f ρ) fun x=>bnd (toB x) fun k=>if k then some (.ok (.bl true)) else g ρ
def Cq (f:FnE):FnE:=fun ρ=>bnd (f ρ) fun x=>bnd (toB x) fun k=>some (.ok (.bl (!k)))
theorem lC {H:Hp} {d:Dv} {v:V} {k:Bool→Option (Rs Dv)} {Q:VK} (r:Rep X.K H d v) (o:Out X H (bnd (toB d) k) Q):∃ b,v=.bl b∧Out X H (k b) Q:=by
 cases d with
 | bl b=>exact ⟨b,r,o⟩
 | _=>exact o.elim
theorem zK {op} (ha:FE X a fa):FE X (.BoolOp op [a] pos) fa:=⟨zb ha.h⟩
theorem zL (ha:FE X a fa) (hb:FE X (.BoolOp .And (b :: rest) pos) fb):FE X (.BoolOp .And (a :: b :: rest) pos) (mO fa fb) :=
 bO (zc ha.h hb.h) fun σ H Q ρ E o=>⟨ρ,E,Out.bind o fun d v H1 e r o'=>by
  obtain ⟨k,rfl,o2⟩:=lC r o'
  refine ⟨k,rfl,?_⟩
  cases k with
  | true=>exact vp ⟨ρ,E.mono e,o2⟩
  | false=>exact vo (o2 (.bl false) H1 (.refl H1) rfl)⟩
theorem Dj (ha:FE X a fa) (hb:FE X (.BoolOp .Or (b :: rest) pos) fb):FE X (.BoolOp .Or (a :: b :: rest) pos) (vOr fa fb) :=
 bO (CQ ha.h hb.h) fun σ H Q ρ E o=>⟨ρ,E,Out.bind o fun d v H1 e r o'=>by
  obtain ⟨k,rfl,o2⟩:=lC r o'
  refine ⟨k,rfl,?_⟩
  cases k with
  | true=>exact vp (o2 (.bl true) H1 (.refl H1) rfl)
  | false=>exact vo ⟨ρ,E.mono e,o2⟩⟩
theorem zM (ha:FE X a fa):FE X (.UnaryOp .Not a pos) (Cq fa) :=
 bO (zd ha.h) fun σ H Q ρ E o=>⟨ρ,E,Out.bind o fun d v H1 e r o'=>by
  obtain ⟨k,rfl,o2⟩:=lC r o'
  exact ⟨k,rfl,o2 (.bl (!k)) H1 (.refl H1) rfl⟩⟩
def fIf (c:FnB) (f g:FnE):FnE:=fun ρ=>bnd (c ρ) fun k=>if k then f ρ else g ρ
theorem Dk (hc:FT X c ga) (ha:FE X a fa) (hb:FE X b fb):FE X (.IfExp c a b pos) (fIf ga fa fb) :=
 bO (sO hc.h ha.h hb.h) fun σ H Q ρ E o=>⟨ρ,E,OutB.bind o fun k H1 e o'=>by
  cases k with
  | true=>exact vp ⟨ρ,E.mono e,o'⟩
  | false=>exact vo ⟨ρ,E.mono e,o'⟩⟩
def ae:FnA:=fun _=>some (.ok [])
def aa (f:FnE) (g:FnA):FnA:=fun ρ=>bnd (f ρ) fun x=>bnd (g ρ) fun xs=>some (.ok (x :: xs))
theorem zO {t:TA} {f:FnA} (h:PA X es t) (w:∀ σ H Q ρ,Envs X.K H σ ρ→OutA X H (f ρ) Q→t σ H Q):FA X es f :=
 ⟨fun pos pins s σ H Q I ⟨ρ,E,o⟩=>h pos pins s σ H Q I (w σ H Q ρ E o)⟩
theorem pQ:FA X [] ae:=zO jP fun _ H _ _ _ o=>o [] H (.refl H) rfl
theorem lD {g:FnA} (ha:FE X e fa) (hr:FA X es g) (hs:e_ (e :: es) X.env=(false,eval e X.env) :: e_ es X.env:=by kernel_rfl):FA X (e :: es) (aa fa g) :=
 zO (cU ha.h hr.h hs) fun σ H Q ρ E o=>⟨ρ,E,Out.bindA o fun d v H1 e r o1=>⟨ρ,E.mono e,OutA.bindA o1 fun ds vs H2 e2 rs o2=>o2 (v :: vs) H2 (.refl H2) ⟨v,vs,rfl,Rep.mono e2 d v r,rs⟩⟩⟩
def dD (g:FnA):FnE:=fun ρ=>bnd (g ρ) fun ds=>if ds.length≤100000 then some (.ok (.lst ds)) else none
def bc (g:FnA):FnE:=fun ρ=>bnd (g ρ) fun ds=>if ds.length≤100000 then some (.ok (.tup ds)) else none
theorem bg {n:Nat} (h:n≤100000):n≤sizeLine:=GG h (by rw [IV]; decide)
theorem zP {g:FnA} (h:FA X es g):FE X (.List es pos) (dD g) :=
 bO (vm h.h) fun σ H Q ρ E o=>⟨ρ,E,OutA.bind o fun ds vs H1 e rs o1=>by
  split at o1
  · rename_i hl
    refine ⟨by rw [rs.length]; exact bg hl,fun p hp=>o1 (.ref p) _ (au hp _) ⟨p,vs,rfl,am,Reps.mono (au hp _) _ _ rs⟩⟩
  · exact o1.elim⟩
theorem zQ {g:FnA} {k} (h:FA X es g):FE X (.Tuple es k pos) (bc g) :=
 bO (zl h.h) fun σ H Q ρ E o=>⟨ρ,E,OutA.bind o fun ds vs H1 e rs o1=>by
  split at o1
  · rename_i hl
    refine ⟨by rw [rs.length]; exact bg hl,fun p hp=>o1 (.ref p) _ (au hp _) ⟨p,vs,rfl,am,Reps.mono (au hp _) _ _ rs⟩⟩
  · exact o1.elim⟩
variable {st:Stmt} {sts:List Stmt} {f g:FnS}
theorem wI:FSs X [] (fun ρ=>some (.nx ρ)):=vq pq fun D σ H ρ E o=>o σ H (.refl H) E
def bn (f g:FnS):FnS:=fun ρ=>sq (f ρ) g
theorem sX (h1:FS X st f) (h2:FSs X sts g):FSs X (st :: sts) (bn f g) :=
 vq (cR h1.h h2.h) fun D σ H ρ E o=>⟨ρ,E,by
  unfold bn at o
  match hf:f ρ with
  | none=>rw [hf] at o; exact o.elim
  | some (.exc c)=>rw [hf] at o; exact o
  | some (.rt d)=>rw [hf] at o; exact o
  | some (.nx ρ')=>rw [hf] at o; exact fun σ' H' e E'=>⟨ρ',E',OutS.mono e o⟩⟩
theorem lE (h1:FS X st f):FSs X [st] f:=⟨ls h1.h⟩
def bh (f:FnE):FnS:=fun ρ=>c9 (f ρ) fun d=>some (.rt d)
theorem pR (he:FE X e fa):FS X (.Return (some e) pos) (bh fa) :=
 pP (vg he.h) fun D σ H ρ E o=>⟨ρ,E,Out.bindS o fun d v H1 e r o1=>o1 v H1 (.refl H1) r⟩
def eI (f:FnE):FnS:=fun ρ=>c9 (f ρ) fun _=>some (.nx ρ)
theorem wJ (he:FE X e fa) (hs:GW e none pos.line X.env=pure false:=by kernel_rfl):FS X (.Expr e pos) (eI fa) :=
 pP (pr he.h hs) fun D σ H ρ E o=>⟨ρ,E,Out.bindS o fun d v H1 e r o1=>o1 σ H1 (.refl H1) (E.mono e)⟩
def c8 (i:Nat) (f:FnE):FnS:=fun ρ=>c9 (f ρ) fun d=>some (.nx (ρ.set i (some d)))
theorem zR (i:Nat) {x:Str} {pos':Pos} (hN:X.N.Nodup) (hi:X.N[i]?=some x) (hx:Loc X.env.scope x) (he:FE X e fa) (hs:GW e (some (.Name x pos')) pos.line X.env=pure false:=by kernel_rfl) (hf:X.fn x=true∨X.env.scope.names.lookup x=some .local:=by first | exact .inl rfl | exact .inr rfl | assumption) :
 FS X (.Assign [.Name x pos'] e pos) (c8 i fa) :=
 pP (ip hN hi hx he.h hs hf) fun D σ H ρ E o=>⟨ρ,E,Out.bindS o fun d v H1 e r o1=>o1 _ H1 (.refl H1) ((E.mono e).set r)⟩
def dI (c:FnB) (f g:FnS):FnS:=fun ρ=>c9 (c ρ) fun k=>if k then f ρ else g ρ
theorem Dl {as bs:List Stmt} (hc:FT X c ga) (ha:FSs X as f) (hb:FSs X bs g):FS X (.If c as bs pos) (dI ga f g) :=
 pP (wq hc.h ha.h hb.h) fun D σ H ρ E o=>⟨ρ,E,OutB.bindS o fun k H1 e o1=>by
  cases k with
  | true=>exact vp ⟨ρ,E.mono e,o1⟩
  | false=>exact vo ⟨ρ,E.mono e,o1⟩⟩
end
def Its (z:Str):It:=⟨fun i _=>i < z.cps.size,fun i H x H'=>H'=H∧∃ c,z.cps[i]?=some c∧x=.str ⟨#[c]⟩,fun i _=>i=z.cps.size⟩
theorem j4 {prog:Program} {w:x_} {A:u_} (hh:A.handled=none) (I:Addr) (x:Str) (t:Tok) {ty:String} (hty:ty="str_ascii_iterator"∨ty="str_iterator") :
 Walks prog w A I [I] [I] x.cps.size (SignAt x) (fun i h=>h.IsStrIter I ty x t i):=by
 rcases hty with rfl | rfl
 · exact Walks.strAscii hh I x t
 · exact Walks.strWide hh I x t
theorem sY {P:Program} {w:x_} {K:ck} {tg:Expr} (z:Str) (t:Tok) (it:Addr) {ty:String} (hty:ty="str_ascii_iterator"∨ty="str_iterator"):vi P w K tg (Its z) [it] it (fun i h=>h.IsStrIter it ty z t i) where
 mem:=by simp
 obj:=fun i h st b hb=>by
  have e:b=it:=by simpa using hb
  subst e
  obtain ⟨o,e,c,d⟩:=st
  exact ⟨o,e,fun v z=>by rw [d] at z; cases z⟩
 keep:=fun i h h' st k=>let ⟨o,ho,r⟩:=st; ⟨o,k it (by simp) o ho,r⟩
 item:=by
  intro X hP hw hK hc i pins s σ H E I hf st hg
  subst hP hw hK
  obtain ⟨f0,f1,f2,f3,f4,f5⟩:=hf it (by simp)
  have W:=j4 (prog:=X.prog) (w:=X.w) (I.ok.hd hc) it z t hty
  refine W.item i s _ _ hg st fun v h' tk hv st' kk=>?_
  obtain ⟨c,u,hc',rfl⟩:=hv
  have I1:Inv X pins σ H { s with heap:=h',toks:=tk }:=I.turned (fun b o hb e=>kk b o (by simpa using hb) e) f0 f1 f3 f4 f5
  obtain ⟨o,e,c',d⟩:=id st'
  refine ⟨_,rfl,sP (s:={ s with heap:=h',toks:=tk }) e c' d (by rcases hty with rfl | rfl <;> decide) ⟨.str ⟨#[c]⟩,H,I1,⟨u,rfl⟩,⟨rfl,c,hc',rfl⟩,st',fun b hb=>(hf b hb).1⟩⟩
 done:=by
  intro X hP hw hK hc i pins s σ H E I hf st hg
  subst hP hw hK
  obtain ⟨f0,f1,f2,f3,f4,f5⟩:=hf it (by simp)
  have W:=j4 (prog:=X.prog) (w:=X.w) (I.ok.hd hc) it z t hty
  have hg':i=z.cps.size:=hg
  subst hg'
  exact W.done s _ _ st fun h' tk kk=>⟨rfl,I.turned (fun b o hb e=>kk b o (by simpa using hb) e) f0 f1 f3 f4 f5⟩
 self:=fun A i s Q E st h=>by
  rcases hty with rfl | rfl
  · exact wpAny_pyIter_striter_ascii st h
  · exact wpAny_pyIter_striter_wide st h
structure Wk (K:ck) (J:It) (ds:List Dv) (H0:Hp):Prop where
 go:∀ i H,Same H0 H→i < ds.length→J.go i H
 stop:∀ H,Same H0 H→J.stop ds.length H
 yld:∀ i H x H',Same H0 H→i < ds.length→J.yld i H x H'→H'=H∧∃ d,ds[i]?=some d∧Rep K H d x
def OutI (X:Cx) (H:Hp) (o:Option (Rs (List Dv))) (R:It→Hp→Prop):Prop:=match o with
 | none=>False
 | some (.exc c)=>XW X c H
 | some (.ok ds)=>∀ J H',Same H H'→Wk X.K J ds H'→R J H'
structure FI (X:Cx) (tg iter:Expr) (f:FnA):Prop where
 h:PI X tg iter fun σ H R=>∃ ρ,Envs X.K H σ ρ∧OutI X H (f ρ) R
theorem OutI.mono {X:Cx} {H H':Hp} {R:It→Hp→Prop} (e:Same H H'):∀ {o:Option (Rs (List Dv))},OutI X H o R→OutI X H' o R
 | none,h=>h
 | some (.exc _),h=>XW.mono h e
 | some (.ok _),h=>fun v H1 e1 r=>h v H1 (e.trans e1) r
def signs (z:Str):List Dv:=z.cps.toList.map fun c=>.str ⟨#[c]⟩
def items:Dv→Option (Rs (List Dv))
 | .lst ds=>some (.ok ds)
 | .tup ds=>some (.ok ds)
 | .str z=>some (.ok (signs z))
 | _=>none
def bj (f:FnE):FnA:=fun ρ=>bnd (f ρ) items
theorem wK {K:ck} {H:Hp} {a:Addr} {xs:List V} {ds:List Dv} (h:H a=some (.lst xs)) (r:Reps K H ds xs):Wk K (Itl K a) ds H where
 go:=fun i H' e hi=>by
  have hx:i < xs.length:=by rw [r.length]; exact hi
  exact ⟨xs,xs[i],SqL.of (e _ _ h),by simp [hx]⟩
 stop:=fun H' e=>⟨xs,SqL.of (e _ _ h),by rw [r.length]; exact l_ _⟩
 yld:=fun i H' x H2 e hi y=>by
  obtain ⟨e2,y⟩:=y
  obtain ⟨d,h1,h2⟩:=Reps.get (Reps.mono e _ _ r) (y xs (SqL.of (e _ _ h)))
  exact ⟨e2,d,h1,h2⟩
theorem zS {K:ck} {H:Hp} {a:Addr} {xs:List V} {ds:List Dv} (h:H a=some (.tup xs)) (r:Reps K H ds xs):Wk K (Itt K a) ds H where
 go:=fun i H' e hi=>by
  have hx:i < xs.length:=by rw [r.length]; exact hi
  exact ⟨xs,xs[i],SqT.of (e _ _ h),by simp [hx]⟩
 stop:=fun H' e=>⟨xs,SqT.of (e _ _ h),by rw [r.length]; exact l_ _⟩
 yld:=fun i H' x H2 e hi y=>by
  obtain ⟨e2,y⟩:=y
  obtain ⟨d,h1,h2⟩:=Reps.get (Reps.mono e _ _ r) (y xs (SqT.of (e _ _ h)))
  exact ⟨e2,d,h1,h2⟩
theorem zT {K:ck} {H:Hp} {z:Str}:Wk K (Its z) (signs z) H where
 go:=fun i H' e hi=>by show i < z.cps.size; simpa [signs] using hi
 stop:=fun H' e=>by show (signs z).length=z.cps.size; simp [signs]
 yld:=fun i H' x H2 e hi y=>by
  obtain ⟨e2,c,hc,rfl⟩:=y
  refine ⟨e2,.str ⟨#[c]⟩,?_,rfl⟩
  have hc':z.cps.toList[i]?=some c:=by simpa using hc
  rw [signs,E_,hc'] <;> rfl
def rng (lo:Int):Nat→List Dv
 | 0=>[]
 | n + 1=>.int lo :: rng (lo + 1) n
theorem dE:∀ (n:Nat) (lo:Int),(rng lo n).length=n
 | 0,_=>rfl
 | n + 1,lo=>by show (rng (lo + 1) n).length + 1=n + 1; rw [dE]
theorem pS:∀ (n:Nat) (lo:Int) (i:Nat),i < n→(rng lo n)[i]?=some (.int (lo + i))
 | 0,_,_,h=>by omega
 | n + 1,lo,0,_=>by simp [rng]
 | n + 1,lo,i + 1,h=>by
  have q:=pS n (lo + 1) i (by omega)
  show (Dv.int lo :: rng (lo + 1) n)[i + 1]?=_
  rw [Kn,q]
  congr 2
  omega
theorem mP {K:ck} {H:Hp} {lo:Int} {n:Nat}:Wk K (Itr lo n) (rng lo n) H where
 go:=fun i H' e hi=>by rw [dE] at hi; exact hi
 stop:=fun H' e=>by show n≤(rng lo n).length; rw [dE]; exact l_ _
 yld:=fun i H' x H2 e hi y=>by
  obtain ⟨e2,rfl⟩:=y
  rw [dE] at hi
  exact ⟨e2,_,pS n lo i hi,rfl⟩
section
variable {X:Cx} {tg l a b:Expr} {fl:FnE} {pos p:Pos}
theorem zU (hl:FE X l fl):FI X tg l (bj fl):=by
 constructor
 intro pins s σ H R I h
 obtain ⟨ρ,E,o⟩:=h
 have key:Out X H (fl ρ) fun x H1=>∃ d,Rep X.K H1 d x∧OutI X H1 (items d) R:=by
  unfold bj at o
  match hf:fl ρ,o with
  | some (.exc c),o=>exact o
  | some (.ok d),o=>exact fun v H1 e r=>⟨d,r,OutI.mono e o⟩
  | none,o=>exact o
 refine thn (hl.h pins s σ H _ I ⟨ρ,E,key⟩) fun v s1 ⟨x,H1,I1,r1,d,rd,q⟩=>?_
 have fin:∀ (o:Obj) (tn:Nat→Heap→Prop) (J:It) (ds:List Dv),vi X.prog X.w X.K tg J [s1.heap.objs.size] s1.heap.objs.size tn→tn 0 (s1.heap.push o)→Wk X.K J ds H1→(∀ J H',Same H1 H'→Wk X.K J ds H'→R J H') →
  PIE X pins σ tg R (.ref s1.heap.objs.size) { s1 with heap:=s1.heap.push o }:=fun o tn J ds T t0 w q=>by
  refine ⟨s1.heap.objs.size,[s1.heap.objs.size],tn,J,H1,rfl,I1.kept (t':=s1.toks) fun b o e=>f_ _ e,T,t0,fun b hb=>?_,q J H1 (.refl H1) w⟩
  have e:b=s1.heap.objs.size:=by simpa using hb
  subst e
  exact I1.fpOk (l_ _) (I1.hok.fresh (l_ _))
 cases d with
 | lst ds =>
  obtain ⟨a,xs,rfl,h1,h2⟩:=rd.lstE
  cases r1
  obtain ⟨its,rv,p,hz⟩:=I1.list (SqL.of h1)
  exact LL p.isList (fin _ _ (Itl X.K a) ds (pB a _) ⟨_,r_ _ rfl,rfl,rfl⟩ (wK h1 h2) q)
 | tup ds =>
  obtain ⟨a,xs,rfl,h1,h2⟩:=rd.tupE
  cases r1
  obtain ⟨its,rv,p,hz⟩:=I1.tuple (SqT.of h1)
  exact J_ (show s1.heap.IsTuple a its.toArray from p) (fin _ _ (Itt X.K a) ds (iq a _) ⟨_,r_ _ rfl,rfl,rfl⟩ (zS h1 h2) q)
 | str z =>
  cases (show x=.str z from rd)
  obtain ⟨t,rfl⟩:=r1
  have hty:Ox z="str_ascii_iterator"∨Ox z="str_iterator":=by
   unfold Ox
   split
   · exact .inl rfl
   · exact .inr rfl
  exact wpAny_pyIter_strU (fin _ _ (Its z) (signs z) (sY z t _ hty) ⟨_,r_ _ rfl,rfl,rfl⟩ zT q)
 | _=>exact q.elim
def lF:List Dv→Option (Rs (List Dv))
 | [.int j]=>if -(2 ^ 62)≤j∧j < 2 ^ 62 then some (.ok (rng 0 j.toNat)) else none
 | _=>none
def sZ:List Dv→Option (Rs (List Dv))
 | [.int i,.int j]=>if -(2 ^ 62)≤i∧i < 2 ^ 62∧-(2 ^ 62)≤j∧j < 2 ^ 62 then some (.ok (rng i (j - i).toNat)) else none
 | _=>none
theorem iw {H:Hp} {R:It→Hp→Prop} {o:Option (Rs (List Dv))} {k:List Dv→Option (Rs (List Dv))} {P:List V→Hp→Prop} (h:OutI X H (bnd o k) R) (hp:∀ ds vs H',Same H H'→Reps X.K H' ds vs→OutI X H' (k ds) R→P vs H'):OutA X H o P:=by
 match o,h with
 | some (.exc _),h=>exact h
 | some (.ok d),h=>exact fun v H1 e r=>hp d v H1 e r (OutI.mono e h)
theorem pU {ga:FnA} (hg:Gl X "range") (hm:X.mg "range"=none) (ha:FA X [a] ga) (hs:e_ [a] X.env=[(false,eval a X.env)]:=by kernel_rfl):FI X tg (.Call (.Name "range" p) [a] [] pos) (fun ρ=>bnd (ga ρ) lF):=by
 constructor
 intro pins s σ H R I h
 obtain ⟨ρ,E,o⟩:=h
 refine pC hg hm ha.h hs pins s σ H R I ⟨ρ,E,iw o fun ds vs H' e rs o1=>?_⟩
 unfold lF at o1
 split at o1
 · rename_i j
   split at o1
   · rename_i hj
     obtain ⟨v,us,rfl,r,t⟩:∃ v us,vs=v :: us∧Rep X.K H' (.int j) v∧Reps X.K H' [] us:=rs
     cases (show us=[] from t)
     cases (show v=.int j from r)
     exact ⟨j,rfl,hj.1,hj.2,o1 _ H' (.refl H') mP⟩
   · exact o1.elim
 · exact o1.elim
theorem pV {ga:FnA} (hg:Gl X "range") (hm:X.mg "range"=none) (ha:FA X [a,b] ga) (hs:e_ [a,b] X.env=[(false,eval a X.env),(false,eval b X.env)]:=by kernel_rfl) (hs2:e_ [b] X.env=[(false,eval b X.env)]:=by kernel_rfl) :
 FI X tg (.Call (.Name "range" p) [a,b] [] pos) (fun ρ=>bnd (ga ρ) sZ):=by
 constructor
 intro pins s σ H R I h
 obtain ⟨ρ,E,o⟩:=h
 refine pD hg hm ha.h hs hs2 pins s σ H R I ⟨ρ,E,iw o fun ds vs H' e rs o1=>?_⟩
 unfold sZ at o1
 split at o1
 · rename_i i j
   split at o1
   · rename_i hj
     obtain ⟨v,us,rfl,r,t⟩:∃ v us,vs=v :: us∧Rep X.K H' (.int i) v∧Reps X.K H' [.int j] us:=rs
     obtain ⟨v2,us2,rfl,r2,t2⟩:∃ v us',us=v :: us'∧Rep X.K H' (.int j) v∧Reps X.K H' [] us':=t
     cases (show us2=[] from t2)
     cases (show v=.int i from r)
     cases (show v2=.int j from r2)
     exact ⟨i,j,rfl,hj,o1 _ H' (.refl H') mP⟩
   · exact o1.elim
 · exact o1.elim
end
def ik (i:Nat) (js:List Nat) (body:FnS):List Dv→Ev→Option Fl
 | [],ρ=>some (.nx (fgt js ρ))
 | d :: ds,ρ=>match body ((fgt js ρ).set i (some d)) with
  | some (.nx ρ')=>ik i js body ds ρ'
  | o=>o
def tf (i:Nat) (js:List Nat) (src:FnA) (body:FnS):FnS:=fun ρ=>c9 (src ρ) fun ds=>ik i js body ds ρ
theorem dc {α:Type} {ds:List α} {i:Nat} {d:α} (h:ds[i]?=some d):ds.drop i=d :: ds.drop (i + 1):=by
 obtain ⟨hi,e⟩:=xy.mp h
 rw [List.drop_eq_getElem_cons hi,e]
theorem zV {X:Cx} {tg iter:Expr} {body:List Stmt} {pos:Pos} {src:FnA} {fb:FnS} (i:Nat) (js:List Nat) (hp:Kk (pi X.prog X.w) X.A X.env X.xe) (hc:X.calm=true) (hi:FI X tg iter src) (hg:PG X tg (pv i)) (hb:FSs X body fb)
 (hs:∀ x,Gs iter X.env x=pure x:=by intro _; kernel_rfl):FS X (.For tg iter body [] pos) (tf i js src fb):=by
 refine pP (mF hp hc hi.h hg hb.h hs) fun D σ H ρ E o=>⟨ρ,E,?_⟩
 unfold tf at o
 match hf:src ρ,o with
 | none,o=>exact o
 | some (.exc c),o=>exact o
 | some (.ok ds),o =>
  intro J H1 e1 wk
  have o1:OutS X H1 (ik i js fb ds ρ) D:=OutS.mono e1 o
  refine ⟨fun n m σ' H'=>m=ds.length - n∧n≤ds.length∧Same H1 H'∧∃ ρ',Envs X.K H' σ' ρ'∧OutS X H' (ik i js fb (ds.drop n) ρ') D,⟨ds.length,by simp,GI _,.refl H1,ρ,E.mono e1,by simpa using o1⟩,?_⟩
  rintro n m σ' H' ⟨rfl,hn,e2,ρ',E',o'⟩
  by_cases hlt:n < ds.length
  · refine .inr ⟨wk.go n H' e2 hlt,fun σ2 H2=>Same H1 H2∧∃ ρ2,Envs X.K H2 σ2 ρ2∧OutS X H2 (ik i js fb (ds.drop (n + 1)) ρ2) D,fun σ2 H2 ⟨e3,ρ2,E2,o2⟩=>⟨ds.length - (n + 1),by omega,rfl,hlt,e3,ρ2,E2,o2⟩,fun x H2 y=>?_⟩
    obtain ⟨rfl,d,hd,rd⟩:=wk.yld n H' x H2 e2 hlt y
    rw [dc hd] at o'
    show tS X fb _ _ _
    refine ⟨(fgt js ρ').set i (some d),(Envs.fgt js E').set rd,?_⟩
    unfold ik at o'
    match hb':fb ((fgt js ρ').set i (some d)) with
    | none=>rw [hb'] at o'; exact o'
    | some (.exc c)=>rw [hb'] at o'; exact o'
    | some (.rt r)=>rw [hb'] at o'; exact o'
    | some (.nx ρ2)=>rw [hb'] at o'; exact fun σ2 H3 e3 E3=>⟨e2.trans e3,ρ2,E3,OutS.mono e3 o'⟩
  · have hn':n=ds.length:=by omega
    subst hn'
    rw [JK] at o'
    exact .inl ⟨wk.stop H' e2,o' σ' H' (.refl H') (Envs.fgt js E')⟩
def spF (K:ck) (F:List Dv→Option (Rs Dv)) (n:Nat):Sp:=fun vs H Q _=>∃ ds,Reps K H ds vs∧ds.length=n∧match F ds with
 | some (.ok d)=>∀ v H',Same H H'→Rep K H' d v→Q v H'
 | _=>False
def ah (F:List Dv→Option (Rs Dv)) (n:Nat) (g:FnA):FnE:=fun ρ=>bnd (g ρ) fun ds=>if ds.length=n then (match F ds with | some (.ok d)=>some (.ok d) | _=>none) else none
section
variable {X:Cx} {k n:Nat} {f:Addr} {fd:Ha} {ps:List Str} {x:Str} {p pos:Pos} {e:Expr} {es:List Expr} {F:List Dv→Option (Rs Dv)} {g:FnA}
theorem wL (G:FnOk X.prog X.w X.K X.mg X.base CX0 k f fd ps (spF X.K F n)) (hr:Room k X.A) (hg:Gl X x) (hm:X.mg x=some (.ref f)) (hk:Hv X.K (.ref f)=true) (hb:Binds X.K fd ps [])
 (ha:FA X (e :: es) g) (hdb:(x == ("__debug__":Str))=false:=by kernel_rfl) (he:e_ (e :: es) X.env=(false,eval e X.env) :: e_ es X.env:=by kernel_rfl) (hpl:(GA pos (e_ es X.env)).any (·.1)=false:=by kernel_rfl) :
 FE X (.Call (.Name x p) (e :: es) [] pos) (ah F n g) :=
 bO (lz G hr hg hm hk hb .nil zw ha.h hdb he hpl) fun σ H Q ρ E o=>⟨ρ,E,OutA.bind o fun ds vs H' e rs o1=>by
  show spF X.K F n (vs ++ []) H' Q E0
  rw [Jh]
  split at o1
  · rename_i hl
    refine ⟨ds,rs,hl,?_⟩
    match hF:F ds with
    | some (.ok d)=>rw [hF] at o1; exact o1
    | some (.exc c)=>rw [hF] at o1; exact o1
    | none=>rw [hF] at o1; exact o1
  · exact o1.elim⟩
def Has (P:Program) (w:x_) (K:ck) (mg:Str→Option Value) (base:Heap) (x:Str) (k:Nat) (ps:List Str) (F:List Dv→Option (Rs Dv)):Prop :=
 ∃ f fd,FnOk P w K mg base CX0 k f fd ps (spF K F ps.length)∧mg x=some (.ref f)∧Hv K (.ref f)=true∧Binds K fd ps []
theorem tj {k':Nat} (k:Nat) (ps:List Str) (F:List Dv→Option (Rs Dv)) (h:Has X.prog X.w X.K X.mg X.base x k ps F) (hr:Room k' X.A) (hk:k≤k') (hg:Gl X x) (ha:FA X (e :: es) g) (hn:n=ps.length:=by kernel_rfl) (hdb:(x == ("__debug__":Str))=false:=by kernel_rfl)
 (he:e_ (e :: es) X.env=(false,eval e X.env) :: e_ es X.env:=by kernel_rfl) (hpl:(GA pos (e_ es X.env)).any (·.1)=false:=by kernel_rfl) :
 FE X (.Call (.Name x p) (e :: es) [] pos) (ah F n g):=by
 subst hn
 obtain ⟨f,fd,G,hm,hkp,hb⟩:=h
 exact wL (G.mono hk) hr hg hm hkp hb ha hdb he hpl
def bV (m:Nat) (fb:FnS):List Dv→Option (Rs Dv):=fun ds=>match fb (ds.map some ++ rl (m - ds.length) none) with
 | some (.nx _)=>some (.ok .non)
 | some (.rt d)=>some (.ok d)
 | _=>none
theorem fw {K:ck} {H:Hp} {N:List Str} {ds:List Dv} {vs:List V} (r:Reps K H ds vs):Envs K H (L2.start N vs) (ds.map some ++ rl (N.length - ds.length) none):=by
 have hl:=r.length
 refine ⟨by unfold L2.start; rw [G8,G8,Gw,Gw,Ip,Ip,hl],fun i d h=>?_⟩
 by_cases hi:i < ds.length
 · rw [HP (by simpa using hi),E_] at h
   cases hd:ds[i]? with
   | none=>rw [hd] at h; cases h
   | some d' =>
    rw [hd] at h
    have h':some (some d')=some (some d):=h
    injection h' with h'
    injection h' with h'
    subst h'
    obtain ⟨v,h1,h2⟩:=r.get' hd
    refine ⟨v,?_,h2⟩
    unfold L2.start
    rw [HP (by rw [Gw,hl]; exact hi),E_,h1] <;> rfl
 · rw [Hh (by simpa using hi),IU] at h
   split at h <;> cases h
theorem Do {P:Program} {w:x_} {K:ck} {mg:Str→Option Value} {base:Heap} {qual:Str} {st:Stmt} {N:List Str} {fb:FnS} (Fn:Fun K x qual st f fd) (S:da N ps (aq st))
 (hb:∀ (cdv:Value) (A:u_) (outer:List Env) (s:c_) (H:Hp) (E:XK),Room k (A.deeper (Kc qual (aq st) s.heap.objs.size f cdv))→FSs (mJ CX0 P w K mg base N qual (aq st) f cdv A outer s H E).nox (bG st) fb) :
 FnOk P w K mg base CX0 (k + 1) f fd ps (spF K (bV N.length fb) ps.length):=by
 refine Fn.ok S (fun vs H Q E h=>?_) (fun cdv A outer s H vs Q E hr h=>?_)
 · obtain ⟨ds,r,hl,_⟩:=h
   rw [r.length,hl]
 · obtain ⟨ds,r,hl,q⟩:=h
   refine ⟨_,(hb cdv A outer s H E hr).h,ds.map some ++ rl (N.length - ds.length) none,fw r,?_⟩
   unfold bV at q
   match hf:fb (ds.map some ++ rl (N.length - ds.length) none) with
   | none=>rw [hf] at q; exact q.elim
   | some (.exc c)=>rw [hf] at q; exact q.elim
   | some (.rt d)=>rw [hf] at q; exact fun v H' e r'=>q v H' e r'
   | some (.nx ρ)=>rw [hf] at q; exact fun σ' H' e _=>q .non H' e rfl
end
theorem vv {k:Nat} {f:Addr} {fd:Ha} {x:Str} {P:Program} {w:x_} {K:ck} {mg:Str→Option Value} {base:Heap} {qual:Str} {st:Stmt} {F:List Dv→Option (Rs Dv)} {n:Nat} (N ps:List Str) (fb:FnS) (hF:F=bV N.length fb) (hn:n=ps.length)
 (Fn:Fun K x qual st f fd) (S:da N ps (aq st))
 (hb:∀ (cdv:Value) (A:u_) (outer:List Env) (s:c_) (H:Hp) (E:XK),Room k (A.deeper (Kc qual (aq st) s.heap.objs.size f cdv))→FSs (mJ CX0 P w K mg base N qual (aq st) f cdv A outer s H E).nox (bG st) fb) :
 FnOk P w K mg base CX0 (k + 1) f fd ps (spF K F n):=by
 subst hF hn
 exact Do Fn S hb
def fX (names:List (Str×IQ)) (env:Env) (acc:List (Str×Addr)):List (Str×Addr):=match names with
 | []=>acc
 | (n,k) :: r=>fX r env (if k == .free then (n,(env.cells.lookup n).getD 0) :: acc else acc)
theorem iy {env:Env} {n:Str} {c:Addr}:∀ (names:List (Str×IQ)) (acc:List (Str×Addr)),(fX names env acc).lookup n=some c→acc.lookup n=some c∨((n,HG)∈names∧c=(env.cells.lookup n).getD 0)
 | [],acc,h=>.inl h
 | (m,k) :: r,acc,h=>by
  rcases iy r _ h with q | ⟨q1,q2⟩
  · by_cases hk:k=.free
    · subst hk
      simp only [beq_self_eq_true,if_true] at q
      rw [GP] at q
      cases hm:n == m with
      | true =>
       rw [hm] at q
       have e:n=m:=by simpa using hm
       subst e
       exact .inr ⟨j_,(GL q).symm⟩
      | false=>rw [hm] at q; exact .inl q
    · have hb:(k == HG)=false:=by simpa using hk
      rw [hb] at q
      exact .inl (by simpa using q)
  · exact .inr ⟨k_ _ q1,q2⟩
theorem j5 {env:Env} {n:Str}:∀ (names:List (Str×IQ)) (acc:List (Str×Addr)),(acc.lookup n).isSome=true→((fX names env acc).lookup n).isSome=true
 | [],acc,h=>h
 | (m,k) :: r,acc,h=>by
  refine j5 r _ ?_
  split
  · rw [GP]
    cases n == m with
    | true=>rfl
    | false=>exact h
  · exact h
theorem jg {env:Env} {n:Str}:∀ (names:List (Str×IQ)) (acc:List (Str×Addr)),(n,HG)∈names→((fX names env acc).lookup n).isSome=true
 | [],acc,h=>by cases h
 | (m,k) :: r,acc,h=>by
  rcases p_.mp h with e | q
  · injection e with e1 e2
    subst e1
    subst e2
    refine j5 r _ ?_
    simp only [beq_self_eq_true,if_true,GP]
    rfl
  · exact jg r _ q
theorem cG {β:Type} {n:Str} {k:β}:∀ {l:List (Str×β)},l.lookup n=some k→(n,k)∈l
 | [],h=>by simp at h
 | (m,j) :: r,h=>by
  rw [GP] at h
  cases hm:n == m with
  | true =>
   rw [hm] at h
   have e:n=m:=by simpa using hm
   subst e
   have e2:j=k:=GL h
   subst e2
   exact j_
  | false=>rw [hm] at h; exact k_ _ (cG h)
structure Fb (osc scope:Scope) (x:Str) (cs:List (Str×Nat)) (N:List Str):Prop where
 kind:scope.kind=.function
 okind:osc.kind=.function
 cell:∀ y∈scope.names,y.2≠.cell
 names:∀ y∈scope.names,y.2=.local→scope.names.lookup y.1=some .local
 tgt:scope.names.lookup x=some .local
 nd:(x :: cs.map (·.1)).Nodup
 free:∀ y∈scope.names,y.2=.free→osc.names.lookup y.1=some .cell∨osc.names.lookup y.1=some .free
 caps:∀ c∈cs,N[c.2]?=some c.1∧scope.names.lookup c.1=some .free
theorem fN {scope:Scope} {env:Env} {n:Str} {k:IQ} (h:(relabel scope env).names.lookup n=some k):(n,k)∈scope.names∨(k=.cell∧(n,HG)∈scope.names):=by
 have q:=cG h
 unfold relabel at q
 obtain ⟨⟨m,j⟩,hm,e⟩:=Go.mp q
 dsimp only at e
 split at e
 · rename_i hc
   injection e with e1 e2
   subst e1
   have hj:j=.free:=by
    rw [g_,g_] at hc
    simpa using hc.1.1
   subst hj
   exact .inr ⟨e2.symm,hm⟩
 · injection e with e1 e2
   subst e1
   subst e2
   exact .inl hm
theorem fP {env:Env}:∀ {names:List (Str×IQ)} {n:Str},names.lookup n=some .free →
 (names.map fun (n,k)=>if (k == HG && env.scope.kind == .function && env.kindOf n == some .cell) then (n,HY) else (n,k)).lookup n=some .cell ∨
 (names.map fun (n,k)=>if (k == HG && env.scope.kind == .function && env.kindOf n == some .cell) then (n,HY) else (n,k)).lookup n=some .free
 | [],_,h=>by simp at h
 | (m,k) :: r,n,h=>by
  have ih:=@fP env r n
  rw [GP] at h
  rw [t_]
  cases hm:n == m with
  | true =>
   rw [hm] at h
   have e2:k=.free:=GL h
   subst e2
   by_cases hc:(HG == HG && env.scope.kind == .function && env.kindOf m == some .cell)=true
   · dsimp only
     rw [if_pos hc,GP,hm]
     exact .inl rfl
   · dsimp only
     rw [if_neg hc,GP,hm]
     exact .inr rfl
  | false =>
   rw [hm] at h
   dsimp only
   by_cases hc:(k == HG && env.scope.kind == .function && env.kindOf m == some .cell)=true
   · rw [if_pos hc,GP,hm]; exact ih h
   · rw [if_neg hc,GP,hm]; exact ih h
def sI (cs:List (Str×Nat)) (ρ:Ev):Ev:=none :: cs.map fun c=>(ρ[c.2]?).join
section
variable {X:Cx} {pins:List (Addr×Obj)} {σ:L2.St} {H:Hp} {s:c_}
end
def pW (tst:Option FnB) (elt:FnE) (cap:Ev):List Dv→Option (List Dv)
 | []=>some []
 | d :: ds =>
  let ρ:=cap.set 0 (some d)
  match (match tst with | none=>(some (.ok true):Option (Rs Bool)) | some t=>t ρ) with
  | some (.ok true)=>(match elt ρ with
   | some (.ok y)=>(match pW tst elt cap ds with | some ys=>some (y :: ys) | none=>none)
   | _=>none)
  | some (.ok false)=>pW tst elt cap ds
  | _=>none
def aO (cs:List (Str×Nat)) (src:FnA) (tst:Option FnB) (elt:FnE):FnE:=fun ρ=>bnd (src ρ) fun ds=>match pW tst elt (sI cs ρ) ds with
 | some ys=>if ys.length≤100000∧ds.length≤100000 then some (.ok (.lst ys)) else none
 | none=>none
def LAt (h:Heap) (D:Addr) (its:List Value):Prop:=∃ n,h.get? D=some { cls:=.type "list",data:=.seq its.toArray n }
theorem oy {P:Program} {w:x_} {A:u_} {E:Value→c_→Prop} {s:c_} {D:Addr} {its:List Value} {u:Value} {Q:Value→c_→Prop} (h:LAt s.heap D its) (hz:its.length≤100000)
 (hQ:∀ h',LAt h' D (its ++ [u])→(∀ b o,b≠D→s.heap.get? b=some o→h'.get? b=some o)→Q .none { s with heap:=h' }):m_ (pi P w) A (call (.builtin "list.append") [.ref D,u]) Q E s:=by
 obtain ⟨n,e⟩:=h
 refine Jv K7 ⟨_,e,rfl⟩ Nu (M_ _ _) (NW D its.toArray n u (by rw [y_]; exact bg hz)) ⟨e,?_⟩
 have q:=Om e (·.push u)
 have e2:its.toArray.push u=(its ++ [u]).toArray:=by simp
 rw [e2] at q
 exact hQ _ ⟨_,q⟩ fun b o hb ho=>(MF s.heap _ (Im hb)).trans ho
def pX (X:Cx) (ifs:List Expr) (tst:Option FnB):Prop:=match tst with
 | none=>ifs=[]
 | some t=>∃ c,ifs=[c]∧FT X c t
theorem HOk.add {P:Program} {w:x_} {H:Hp} {h h':Heap} {D C:Addr} {o:HO} (x:HOk P w H h) (hD:H D=none) (hC:H C=none) (k:∀ b u,b≠C→h.get? b=some u→h'.get? b=some u) (new:ObjOk P w (upd H D o) h' D o):HOk P w (upd H D o) h':=fun b u e=>by
 by_cases hb:b=D
 · subst hb; rw [am] at e; cases e; exact new
 · rw [ao hb] at e
   refine (x b u e).stay (fun c v hc q=>k c v ?_ q) (fun c q=>by rw [ao (ar q hD)]; exact q) fun c xs q=>by rw [ao (ar q hD)]; exact q
   rcases hc with rfl | hc
   · exact ar e hC
   · exact ar hc hC
theorem wM {b D:Nat} (h:b < D):b≠D:=by omega
theorem zW {b D:Nat} (h:b < D):b≠D + 1:=by omega
theorem Fc {D:Nat}:D≠D + 1:=by omega
section
variable {X:Cx}
def ii:Dv→Dv→Option (Rs Dv)
 | .int i,.int j=>some (.ok (.int (i + j)))
 | .str x,.str y=>if x.length + y.length≤100000 then some (.ok (.str (x ++ y))) else none
 | .lst a,.lst b=>if a.length + b.length≤100000 then some (.ok (.lst (a ++ b))) else none
 | _,_=>none
def wN:R2:=fun x y H Q=>rI0 (fun i j=>.int (i + j)) x y H Q∨((∃ i j,x=.str i∧y=.str j∧i.length + j.length≤sizeLine∧Q (.str (i ++ j)) H)∨E6 x y H Q)
theorem o_add:OpR X (HQ .Add) wN:=op_add.or (op_add_str.or zv)
theorem zX:GOp X wN ii:=by
 intro dx dy x y H Q rx ry o
 cases dx <;> cases dy <;> try exact (show False from o).elim
 · rename_i i j
   exact .inl ⟨i,j,rx,ry,o _ H (.refl H) rfl⟩
 · rename_i i j
   simp only [ii] at o
   split at o
   · rename_i hl
     exact .inr (.inl ⟨i,j,rx,ry,bg hl,o _ H (.refl H) rfl⟩)
   · exact o.elim
 · rename_i a b
   simp only [ii] at o
   split at o
   · rename_i hl
     obtain ⟨p,xs,rfl,h1,q1⟩:=rx.lstE
     obtain ⟨p2,xs2,rfl,h2,q2⟩:=ry.lstE
     refine .inr (.inr ⟨p,p2,xs,xs2,rfl,rfl,h1,h2,by rw [q1.length,q2.length]; exact bg hl,fun l hl=>o _ _ (au hl _) ⟨l,_,rfl,am,Reps.mono (au hl _) _ _ (q1.append q2)⟩⟩)
   · exact o.elim
def zY:Dv→Dv→Option (Rs Dv)
 | .int i,.int j=>some (.ok (.int (i - j)))
 | _,_=>none
theorem Dr:GOp X (rI0 fun i j=>.int (i - j)) zY:=by
 intro dx dy x y H Q rx ry o
 cases dx <;> cases dy <;> try exact (show False from o).elim
 rename_i i j
 exact ⟨i,j,rx,ry,o _ H (.refl H) rfl⟩
def fQ:Dv→Dv→Option (Rs Dv)
 | .int i,.int j=>if (-18446744073709551616 < i∧i < 18446744073709551616)∨(-18446744073709551616 < j∧j < 18446744073709551616) then some (.ok (.int (i * j))) else none
 | _,_=>none
theorem zZ:GOp X (rI CMul fun i j=>.int (i * j)) fQ:=by
 intro dx dy x y H Q rx ry o
 cases dx <;> cases dy <;> try exact (show False from o).elim
 rename_i i j
 simp only [fQ] at o
 split at o
 · rename_i h
   exact ⟨i,j,rx,ry,h,o _ H (.refl H) rfl⟩
 · exact o.elim
def eC:Dv→Dv→Option (Rs Dv)
 | .int i,.int j=>if 0 < j then some (.ok (.int (i % j))) else none
 | _,_=>none
theorem Ds:GOp X (rI (fun _ j=>0 < j) fun i j=>.int (i % j)) eC:=by
 intro dx dy x y H Q rx ry o
 cases dx <;> cases dy <;> try exact (show False from o).elim
 rename_i i j
 simp only [eC] at o
 split at o
 · rename_i h
   exact ⟨i,j,rx,ry,h,o _ H (.refl H) rfl⟩
 · exact o.elim
def eK:Dv→Dv→Option (Rs Dv)
 | .int i,.int j=>if 0 < j∧j < 1073741824 then some (.ok (.int (i / j))) else none
 | _,_=>none
theorem z0:GOp X (rI ET fun i j=>.int (i / j)) eK:=by
 intro dx dy x y H Q rx ry o
 cases dx <;> cases dy <;> try exact (show False from o).elim
 rename_i i j
 simp only [eK] at o
 split at o
 · rename_i h
   exact ⟨i,j,rx,ry,h,o _ H (.refl H) rfl⟩
 · exact o.elim
def vw:Dv→Option (Rs Dv)
 | .int i=>some (.ok (.int (-i)))
 | _=>none
def f1 (g:Dv→Option (Rs Dv)) (fa:FnE):FnE:=fun ρ=>bnd (fa ρ) g
theorem z4 {a:Expr} {fa:FnE} {pos:Pos} (ha:FE X a fa):FE X (.UnaryOp .USub a pos) (f1 vw fa) :=
 bO (C1 zi ha.h) fun σ H Q ρ E o=>⟨ρ,E,Out.bind o fun d v H1 e r o1=>by
  cases d <;> try exact (show False from o1).elim
  rename_i i
  exact ⟨i,r,o1 _ H1 (.refl H1) rfl⟩⟩
def seq (x y:Str):Bool:=x.cps.toList == y.cps.toList
theorem vx (x y:Str):(x == y)=seq x y:=by
 rw [G2]
 unfold seq
 obtain ⟨⟨a⟩⟩:=x
 obtain ⟨⟨b⟩⟩:=y
 simp
def eqS:Dv→Dv→Option Bool
 | .non,.non=>some true
 | .non,.int _=>some false
 | .int _,.non=>some false
 | .non,.bl _=>some false
 | .bl _,.non=>some false
 | .non,.str _=>some false
 | .str _,.non=>some false
 | .int i,.int j=>some (i == j)
 | .bl i,.bl j=>some (i == j)
 | .str i,.str j=>some (seq i j)
 | .int _,.str _=>some false
 | .str _,.int _=>some false
 | .bl _,.str _=>some false
 | .str _,.bl _=>some false
 | _,_=>none
theorem vy {K:ck} {H:Hp} {dx dy:Dv} {x y:V} {b:Bool} (rx:Rep K H dx x) (ry:Rep K H dy y) (h:eqS dx dy=some b):C4 x y=true∧decide (x=y)=b:=by
 cases dx <;> cases dy <;> (try cases h) <;> (try (cases rx; cases ry; exact ⟨rfl,by first | rfl | exact lu | exact pE | (rw [lv,vx]) | simp⟩))
def Dt (p:Int→Int→Bool):Dv→Dv→Option (Rs Dv)
 | .int i,.int j=>some (.ok (.bl (p i j)))
 | _,_=>none
theorem Du (p:Int→Int→Bool):GOp X (rI0 fun i j=>.bl (p i j)) (Dt p):=by
 intro dx dy x y H Q rx ry o
 cases dx <;> cases dy <;> try exact (show False from o).elim
 rename_i i j
 exact ⟨i,j,rx,ry,o _ H (.refl H) rfl⟩
abbrev gtD:=Dt fun i j=>decide (j < i)
def isN:Dv→Dv→Option (Rs Dv)
 | x,.non=>some (.ok (.bl (match x with | .non=>true | _=>false)))
 | _,_=>none
theorem wO {K:ck} {H:Hp} {d:Dv} {v:V} (r:Rep K H d v):decide (v=.non)=(match d with | .non=>true | _=>false):=by
 cases d with
 | non=>cases (show v=.non from r); rfl
 | bl b=>cases (show v=.bl b from r); rfl
 | int b=>cases (show v=.int b from r); rfl
 | str b=>cases (show v=.str b from r); rfl
 | tup ds=>obtain ⟨a,xs,rfl,_⟩:=r.tupE; rfl
 | lst ds=>obtain ⟨a,xs,rfl,_⟩:=r.lstE; rfl
 | scr ds=>obtain ⟨a,rfl,_⟩:=r.scrE; rfl
 | exn c =>
  obtain ⟨a,_,_,_,rfl,_⟩:=r.exnE
  rfl
theorem Dw:GOp X (fun x y H Q=>y=.non∧Q (.bl (decide (x=.non))) H) isN:=by
 intro dx dy x y H Q rx ry o
 cases dy <;> try exact (show False from o).elim
 have q:=wO rx
 refine ⟨ry,?_⟩
 have q2:=o _ H (.refl H) rfl
 cases dx <;> (rw [q]; exact q2)
def inS (x y:Str):Bool:=!(Hb y x 0 y.length 1).isEmpty
def df:Dv→Bool
 | .non=>true
 | .bl _=>true
 | .int _=>true
 | .str _=>true
 | _=>false
def eqF:Dv→Dv→Bool
 | .non,.non=>true
 | .bl a,.bl b=>a == b
 | .bl a,.int b=>(if a then 1 else 0) == b
 | .int a,.bl b=>a == (if b then 1 else 0)
 | .int a,.int b=>a == b
 | .str a,.str b=>seq a b
 | _,_=>false
def inL (x:Dv) (ys:List Dv):Option Bool:=if df x && ys.all df then some (ys.any fun y=>eqF y x) else none
def wP:Dv→Dv→Option Bool
 | .str x,.str y=>some (inS x y)
 | x,.lst ys=>inL x ys
 | x,.tup ys=>inL x ys
 | _,_=>none
def inD (x y:Dv):Option (Rs Dv):=match wP x y with
 | some b=>some (.ok (.bl b))
 | none=>none
def j6 (x y:Dv):Option (Rs Dv):=match wP x y with
 | some b=>some (.ok (.bl (!b)))
 | none=>none
theorem jh {K:ck} {H:Hp} {d:Dv} {v:V} (r:Rep K H d v) (h:df d=true):c7 v=true:=by
 cases d <;> first | (cases h; done) | (cases r; rfl)
theorem gd {K:ck} {H:Hp}:∀ {ds:List Dv} {vs:List V},Reps K H ds vs→ds.all df=true→vs.all c7=true
 | [],vs,r,_=>by cases (show vs=[] from r); rfl
 | d :: ds,vs,r,h=>by
  obtain ⟨v,us,rfl,r1,r2⟩:∃ v us,vs=v :: us∧Rep K H d v∧Reps K H ds us:=r
  rw [Hw,g_] at h
  rw [Hw,g_]
  exact ⟨jh r1 h.1,gd r2 h.2⟩
theorem pY {K:ck} {H:Hp} {d e:Dv} {v u:V} (r:Rep K H d v) (q:Rep K H e u) (h:df d=true) (h':df e=true):eqV v u=eqF d e:=by
 cases d <;> first | (cases h; done) | (cases r; cases e <;> first | (cases h'; done) | (cases q; first | rfl | exact vx _ _))
theorem vz {K:ck} {H:Hp} {e:Dv} {u:V} (q:Rep K H e u) (h':df e=true):∀ {ds:List Dv} {vs:List V},Reps K H ds vs→ds.all df=true→(vs.any fun y=>eqV y u)=ds.any fun y=>eqF y e
 | [],vs,r,_=>by cases (show vs=[] from r); rfl
 | d :: ds,vs,r,h=>by
  obtain ⟨v,us,rfl,r1,r2⟩:∃ v us,vs=v :: us∧Rep K H d v∧Reps K H ds us:=r
  rw [Hw,g_] at h
  rw [HH,HH,pY r1 q h.1 h',vz q h' r2 h.2]
theorem mQ {K:ck} {H:Hp} {dx:Dv} {ys:List Dv} {x:V} {vs:List V} {b:Bool} (rx:Rep K H dx x) (ry:Reps K H ys vs) (h:inL dx ys=some b):c7 x=true∧vs.all c7=true∧inV x vs=b:=by
 unfold inL at h
 split at h
 · rename_i hc
   rw [g_] at hc
   cases h
   exact ⟨jh rx hc.1,gd ry hc.2,vz rx hc.1 ry hc.2⟩
 · cases h
def Dx (K:ck):R2:=fun x y H Q=>(∃ i j,x=.str i∧y=.str j∧Q (.bl (!(Hb j i 0 j.length 1).isEmpty)) H)∨rIn K false x y H Q
def lG (K:ck):R2:=fun x y H Q=>(∃ i j,x=.str i∧y=.str j∧Q (.bl (!(!(Hb j i 0 j.length 1).isEmpty))) H)∨rIn K true x y H Q
theorem o_in:OpR X (Gx .In) (Dx X.K):=op_in_str.or pL
theorem o_notIn:OpR X (Gx .NotIn) (lG X.K):=op_notIn_str.or jX
theorem Fd:GOp X (Dx X.K) inD:=by
 intro dx dy x y H Q rx ry o
 unfold inD at o
 split at o
 · rename_i b hb
   have q:=o _ H (.refl H) rfl
   cases dy <;> try (cases dx <;> cases hb; done)
   · rename_i z
     cases dx <;> try (cases hb; done)
     rename_i z'
     cases hb
     exact .inl ⟨z',z,rx,ry,q⟩
   · rename_i ys
     have hb':inL dx ys=some b:=by cases dx <;> exact hb
     obtain ⟨a,vs,rfl,h1,h2⟩:=ry.tupE
     obtain ⟨f1,f2,f3⟩:=mQ rx h2 hb'
     exact .inr ⟨a,vs,rfl,.inr (SqT.of h1),f1,f2,by rw [if_neg on,f3]; exact q⟩
   · rename_i ys
     have hb':inL dx ys=some b:=by cases dx <;> exact hb
     obtain ⟨a,vs,rfl,h1,h2⟩:=ry.lstE
     obtain ⟨f1,f2,f3⟩:=mQ rx h2 hb'
     exact .inr ⟨a,vs,rfl,.inl (SqL.of h1),f1,f2,by rw [if_neg on,f3]; exact q⟩
 · exact o.elim
theorem pZ:GOp X (lG X.K) j6:=by
 intro dx dy x y H Q rx ry o
 unfold j6 at o
 split at o
 · rename_i b hb
   have q:=o _ H (.refl H) rfl
   cases dy <;> try (cases dx <;> cases hb; done)
   · rename_i z
     cases dx <;> try (cases hb; done)
     rename_i z'
     cases hb
     exact .inl ⟨z',z,rx,ry,q⟩
   · rename_i ys
     have hb':inL dx ys=some b:=by cases dx <;> exact hb
     obtain ⟨a,vs,rfl,h1,h2⟩:=ry.tupE
     obtain ⟨f1,f2,f3⟩:=mQ rx h2 hb'
     exact .inr ⟨a,vs,rfl,.inr (SqT.of h1),f1,f2,by rw [if_pos rfl,f3]; exact q⟩
   · rename_i ys
     have hb':inL dx ys=some b:=by cases dx <;> exact hb
     obtain ⟨a,vs,rfl,h1,h2⟩:=ry.lstE
     obtain ⟨f1,f2,f3⟩:=mQ rx h2 hb'
     exact .inr ⟨a,vs,rfl,.inl (SqL.of h1),f1,f2,by rw [if_pos rfl,f3]; exact q⟩
 · exact o.elim
def atD {α:Type} (xs:List α) (i:Int):Option α:=if 0≤i then xs[i.toNat]? else if -(xs.length:Int)≤i then xs[(i + xs.length).toNat]? else none
theorem ji {α:Type} {xs:List α} {i:Int} {v:α} (h:atD xs i=some v):atI xs i=some v:=by
 unfold atD at h
 unfold atI ixN
 split at h
 · rename_i h0
   have hl:i.toNat < xs.length:=by
    obtain ⟨q,_⟩:=xy.mp h
    exact q
   rw [if_pos h0,if_pos (by omega)]
   exact h
 · rename_i h0
   split at h
   · rename_i h1
     rw [if_neg h0,if_pos h1]
     exact h
   · cases h
def ixD:Dv→Dv→Option (Rs Dv)
 | .lst xs,.int i=>(match atD xs i with | some d=>some (.ok d) | none=>none)
 | .tup xs,.int i=>(match atD xs i with | some d=>some (.ok d) | none=>none)
 | .str z,.int i=>if z.length≤100000 then (match atD z.cps.toList i with | some c=>some (.ok (.str ⟨#[c]⟩)) | none=>none) else none
 | .scr ns,.int i=>(match atD ns i with | some d=>some (.ok (.int d)) | none=>none)
 | _,_=>none
theorem lH {α β:Type} {xs:List α} {ys:List β} (h:ys.length=xs.length) {i:Int} {x:α} (e:atD xs i=some x):∃ j:Nat,xs[j]?=some x∧∀ y,ys[j]?=some y→atD ys i=some y:=by
 unfold atD at e
 split at e
 · rename_i h0
   exact ⟨_,e,fun y q=>by unfold atD; rw [if_pos h0]; exact q⟩
 · rename_i h0
   split at e
   · rename_i h1
     exact ⟨_,e,fun y q=>by unfold atD; rw [if_neg h0,h,if_pos h1]; exact q⟩
   · cases e
theorem F7:GOp X (rIx X.K) ixD:=by
 intro dx dy x y H Q rx ry o
 cases dx <;> cases dy <;> try exact (show False from o).elim
 · rename_i z i
   simp only [ixD] at o
   split at o
   · rename_i hl
     split at o
     · rename_i c hc
       exact .inr (.inr ⟨z,i,c,rx,ry,bg hl,ji hc,o _ H (.refl H) rfl⟩)
     · exact o.elim
   · exact o.elim
 · rename_i ds i
   simp only [ixD] at o
   split at o
   · rename_i d hd
     obtain ⟨a,xs,rfl,h1,h2⟩:=rx.tupE
     obtain ⟨j,e1,e2⟩:=lH h2.length hd
     obtain ⟨v,e3,r3⟩:=h2.get' e1
     exact .inr (.inl ⟨a,xs,i,v,rfl,ry,SqT.of h1,ji (e2 v e3),o v H (.refl H) r3⟩)
   · exact o.elim
 · rename_i ds i
   simp only [ixD] at o
   split at o
   · rename_i d hd
     obtain ⟨a,xs,rfl,h1,h2⟩:=rx.lstE
     obtain ⟨j,e1,e2⟩:=lH h2.length hd
     obtain ⟨v,e3,r3⟩:=h2.get' e1
     exact .inl ⟨a,xs,i,v,rfl,ry,SqL.of h1,ji (e2 v e3),o v H (.refl H) r3⟩
   · exact o.elim
 · rename_i ns i
   simp only [ixD] at o
   split at o
   · rename_i d hd
     obtain ⟨a,rfl,h1⟩:=rx.scrE
     obtain ⟨j,e1,e2⟩:=lH (ys:=ns.map V.int) (by simp) hd
     exact .inl ⟨a,_,i,.int d,rfl,ry,h1,ji (e2 _ (by rw [E_,e1] <;> rfl)),o _ H (.refl H) rfl⟩
   · exact o.elim
theorem Dy {a b:Expr} {fa fb:FnE} {pos:Pos} (ha:FE X a fa) (hb:FE X b fb) (hs:pK b:=by intro _ _; kernel_rfl):FE X (.Subscript a b pos) (f2 ixD fa fb) :=
 bO (Dc zr ha.h hb.h hs) fun _ _ _ _ E o=>two F7 E o
abbrev FnO:=Ev→Option (Rs (Option Int))
def OutO (X:Cx) (H:Hp) (o:Option (Rs (Option Int))) (Q:Option Int→Hp→Prop):Prop:=match o with
 | none=>False
 | some (.exc c)=>XW X c H
 | some (.ok d)=>∀ H',Same H H'→Q d H'
theorem OutO.mono {H H':Hp} {Q:Option Int→Hp→Prop} (e:Same H H'):∀ {o:Option (Rs (Option Int))},OutO X H o Q→OutO X H' o Q
 | none,h=>h
 | some (.exc _),h=>XW.mono h e
 | some (.ok _),h=>fun H1 e1=>h H1 (e.trans e1)
structure FO (X:Cx) (e:Option Expr) (f:FnO):Prop where
 h:PO X e fun σ H Q=>∃ ρ,Envs X.K H σ ρ∧OutO X H (f ρ) Q
def dR:FnO:=fun _=>some (.ok none)
def toI:Dv→Option (Rs (Option Int))
 | .int i=>some (.ok (some i))
 | _=>none
def cH (f:FnE):FnO:=fun ρ=>bnd (f ρ) toI
theorem wQ:FO X none dR:=⟨fun pins s σ H Q I ⟨_,_,o⟩=>wy pins s σ H Q I (o H (.refl H))⟩
theorem wR {e:Expr} {fa:FnE} (h:FE X e fa):FO X (some e) (cH fa):=⟨fun pins s σ H Q I ⟨ρ,E,o⟩=>wz h.h pins s σ H Q I ⟨ρ,E,by
 unfold cH at o
 match hf:fa ρ,o with
 | none,o=>exact o
 | some (.exc c),o=>exact o
 | some (.ok d),o =>
  intro v H' e r
  cases d <;> try exact (show False from o).elim
  rename_i i
  exact ⟨i,r,o H' e⟩⟩⟩
def yP {α:Type} (xs:List α) (lo hi:Option Int):List α:=(xs.drop (HT.sIx xs.length 0 lo)).take (HT.sIx xs.length xs.length hi - HT.sIx xs.length 0 lo)
def F8:V→Option Int→Option Int→Hp→VK→Prop:=fun x lo hi H Q=>∃ z,x=.str z∧z.length≤sizeLine∧Q (.str (Oh z lo hi)) H
theorem sl_str:SlR X F8:=by
 intro pins s σ H x v vl vu lo hi sl Q I rx hs pl pu q
 obtain ⟨z,rfl,hz,q⟩:=q
 obtain ⟨t,rfl⟩:=rx
 refine ⟨"str",_,F.slot_str_getitem.lookup,KS _ _ _,?_⟩
 have fin:∀ (t':Tok) (k:Nat),EP X pins σ Q (.str (Oh z lo hi) t') { s with toks:=k }:=fun t' k=>⟨.str (Oh z lo hi),H,I.tok _,⟨_,rfl⟩,q⟩
 cases pl with
 | none =>
  cases pu with
  | none=>exact IN (l:=none) (u:=none) (st:=none) hs rfl (Lc ⟨GG (MC z _ _) hz,fun t' k=>fin t' k⟩)
  | int j u=>exact IN (l:=none) (u:=some (j,u)) (st:=none) hs rfl (Lc ⟨GG (MC z _ _) hz,fun t' k=>fin t' k⟩)
 | int i u' =>
  cases pu with
  | none=>exact IN (l:=some (i,u')) (u:=none) (st:=none) hs rfl (Lc ⟨GG (MC z _ _) hz,fun t' k=>fin t' k⟩)
  | int j u=>exact IN (l:=some (i,u')) (u:=some (j,u)) (st:=none) hs rfl (Lc ⟨GG (MC z _ _) hz,fun t' k=>fin t' k⟩)
def Fe (x:Dv) (lo hi:Option Int):Option (Rs Dv):=match x with
 | .str z=>if z.length≤100000 then some (.ok (.str (Oh z lo hi))) else none
 | .lst xs=>some (.ok (.lst (yP xs lo hi)))
 | _=>none
theorem j7 {H:Hp} {Q:VK} {o:Option (Rs (Option Int))} {k:Option Int→Option (Rs Dv)} {P:Option Int→Hp→Prop} (h:Out X H (bnd o k) Q) (hp:∀ b H',Same H H'→Out X H' (k b) Q→P b H'):OutO X H o P:=by
 match o,h with
 | some (.exc _),h=>exact h
 | some (.ok d),h=>exact fun H1 e=>hp d H1 e (Out.mono e h)
def fR:List Dv→Option (Rs Dv)
 | [.str z]=>if z.length≤100000 then some (.ok (.int z.length)) else none
 | [.lst xs]=>some (.ok (.int xs.length))
 | [.tup xs]=>some (.ok (.int xs.length))
 | [.scr ns]=>some (.ok (.int ns.length))
 | _=>none
def fB1 (g:List Dv→Option (Rs Dv)) (ga:FnA):FnE:=fun ρ=>bnd (ga ρ) g
variable {x:Str} {p pos:Pos} {e:Expr} {es:List Expr} {ga:FnA}
theorem dg {K:ck} {H:Hp} {d:Dv} {vs:List V} (r:Reps K H [d] vs):∃ v,vs=[v]∧Rep K H d v:=by
 obtain ⟨v,us,rfl,r1,r2⟩:∃ v us,vs=v :: us∧Rep K H d v∧Reps K H [] us:=r
 cases (show us=[] from r2)
 exact ⟨v,rfl,r1⟩
theorem z5 {K:ck} {H:Hp} {d d2:Dv} {vs:List V} (r:Reps K H [d,d2] vs):∃ v v2,vs=[v,v2]∧Rep K H d v∧Rep K H d2 v2:=by
 obtain ⟨v,us,rfl,r1,r2⟩:∃ v us,vs=v :: us∧Rep K H d v∧Reps K H [d2] us:=r
 obtain ⟨v2,rfl,r3⟩:=dg r2
 exact ⟨v,v2,rfl,r1,r3⟩
theorem z6 (hg:Gl X "len") (hm:X.mg "len"=none) (ha:FA X (e :: es) ga) (he:e_ (e :: es) X.env=(false,eval e X.env) :: e_ es X.env:=by kernel_rfl) (hpl:(GA pos (e_ es X.env)).any (·.1)=false:=by kernel_rfl):FE X (.Call (.Name "len" p) (e :: es) [] pos) (fB1 fR ga) :=
 bO (dC sQ hg hm ON ha.h (by decide) (by decide) he hpl) fun σ H Q ρ E o=>⟨ρ,E,OutA.bind o fun ds vs H1 e1 rs o1=>by
  unfold fR at o1
  split at o1
  · rename_i z
    split at o1
    · rename_i hz
      obtain ⟨v,rfl,r⟩:=dg rs
      cases (show v=.str z from r)
      exact ⟨_,_,rfl,⟨bg hz,rfl⟩,o1 _ H1 (.refl H1) rfl⟩
    · exact o1.elim
  · rename_i xs
    obtain ⟨v,rfl,r⟩:=dg rs
    obtain ⟨a,ws,rfl,h1,h2⟩:=r.lstE
    exact ⟨_,_,rfl,.inl ⟨ws,SqL.of h1,rfl⟩,o1 _ H1 (.refl H1) (by rw [h2.length]; rfl)⟩
  · rename_i xs
    obtain ⟨v,rfl,r⟩:=dg rs
    obtain ⟨a,ws,rfl,h1,h2⟩:=r.tupE
    exact ⟨_,_,rfl,.inr ⟨ws,SqT.of h1,rfl⟩,o1 _ H1 (.refl H1) (by rw [h2.length]; rfl)⟩
  · rename_i ns
    obtain ⟨v,rfl,r⟩:=dg rs
    obtain ⟨a,rfl,h1⟩:=r.scrE
    exact ⟨_,_,rfl,.inl ⟨_,h1,rfl⟩,o1 _ H1 (.refl H1) (by rw [Gw]; rfl)⟩
  · exact o1.elim⟩
def jj:List Dv→Option (List Bool)
 | []=>some []
 | .bl b :: r=>(match jj r with | some bs=>some (b :: bs) | none=>none)
 | _=>none
def oz:List Dv→Option (Rs Dv)
 | [.lst xs]=>(match jj xs with | some bs=>some (.ok (.bl (bs.all id))) | none=>none)
 | _=>none
theorem mR {K:ck} {H:Hp}:∀ {ds:List Dv} {vs:List V} {us:List Value} {bs:List Bool},Reps K H ds vs→Vals vs us→jj ds=some bs→us=bs.map Hy
 | [],vs,us,bs,r,q,h=>by
  cases (show vs=[] from r)
  cases q
  cases h
  rfl
 | d :: ds,vs,us,bs,r,q,h=>by
  obtain ⟨v,ws,rfl,r1,r2⟩:∃ v us,vs=v :: us∧Rep K H d v∧Reps K H ds us:=r
  cases q with
  | cons q1 q2 =>
   cases d <;> try (cases h; done)
   rename_i b
   simp only [jj] at h
   cases hb:jj ds with
   | none=>rw [hb] at h; cases h
   | some bs' =>
    rw [hb] at h
    cases h
    cases (show v=.bl b from r1)
    cases q1
    rw [mR r2 q2 hb]
    rfl
theorem tq:CallR X (.builtin "all") (fun xs H Q=>∃ a vs bs ds,xs=[.ref a]∧H a=some (.lst vs)∧Reps X.K H ds vs∧jj ds=some bs∧X.calm=true∧Q (.bl (bs.all id)) H):=by
 intro pins s σ H xs us Q I r h
 obtain ⟨a,vs,bs,ds,rfl,h1,h2,h3,hc,q⟩:=h
 obtain ⟨u,rfl,ru⟩:=fq r
 cases ru
 obtain ⟨z,its,n,rv,hl,e⟩:=I.lstM h1
 have eb:=mR h2 rv h3
 subst eb
 have hL:s.heap.IsList a (bs.map Hy).toArray:=⟨_,e,rfl,_,rfl⟩
 have hlt:a < s.heap.objs.size:=o_ e
 refine call_all_walk (LL hL ?_)
 refine ⟨s.heap.objs.size,[s.heap.objs.size,a],[s.heap.objs.size],(bs.map Hy).toArray.size,_,_,fun i=>(bs[i]?).getD true,rfl,Walks.list (A:=X.A.in1) (I.ok.hd hc) _ a (z_ hlt) (bs.map Hy).toArray,
  ⟨⟨_,r_ _ rfl,rfl,rfl⟩,hL.push _⟩,fun i v s' Q' E' hP hQ=>?_,fun h' tk hk=>?_⟩
 · have hP':(bs.map Hy)[i]?=some v:=by simpa using hP
   rw [E_] at hP'
   cases hb:bs[i]? with
   | none=>rw [hb] at hP'; cases hP'
   | some b =>
    rw [hb] at hP'
    cases hP'
    have hQ2:Q' ((bs[i]?).getD true) s':=hQ
    rw [hb] at hQ2
    exact H_ hQ2
 · have e2:((h_ (bs.map Hy).toArray.size).all fun i=>(bs[i]?).getD true)=bs.all id:=by
    rw [y_,Gw]
    rw [G2]
    simp only [Gv,Gy,id]
    constructor
    · intro hh b hb
      obtain ⟨i,hi,rfl⟩:=List.mem_iff_getElem.mp hb
      simpa [hi] using hh i hi
    · intro hh i hi
      simp only [n_ hi,Option.getD_some]
      exact hh _ (Mt hi)
   rw [e2]
   refine ⟨.bl _,H,I.kept fun b x eb=>hk b x (fun hm=>?_) (f_ _ eb),rfl,q⟩
   rw [Gr.mp hm] at eb
   exact Hj _ (o_ eb)
theorem z7 (hc:X.calm=true) (hg:Gl X "all") (hm:X.mg "all"=none) (ha:FA X (e :: es) ga) (he:e_ (e :: es) X.env=(false,eval e X.env) :: e_ es X.env:=by kernel_rfl) (hpl:(GA pos (e_ es X.env)).any (·.1)=false:=by kernel_rfl):FE X (.Call (.Name "all" p) (e :: es) [] pos) (fB1 oz ga) :=
 bO (dC tq hg hm PyProof.Rows.boot_all ha.h (by decide) (by decide) he hpl) fun σ H Q ρ E o=>⟨ρ,E,OutA.bind o fun ds vs H1 e1 rs o1=>by
  unfold oz at o1
  split at o1
  · rename_i xs
    split at o1
    · rename_i bs hb
      obtain ⟨v,rfl,r⟩:=dg rs
      obtain ⟨a,ws,rfl,h1,h2⟩:=r.lstE
      exact ⟨a,ws,bs,xs,rfl,h1,h2,hb,hc,o1 _ H1 (.refl H1) rfl⟩
    · exact o1.elim
  · exact o1.elim⟩
def tyD:Dv→String
 | .non=>"NoneType"
 | .bl _=>"bool"
 | .int _=>"int"
 | .str _=>"str"
 | .tup _=>"tuple"
 | .lst _=>"list"
 | .scr _=>"list"
 | .exn _=>"object"
end
section
variable {X:Cx} {p pos apos cpos pT:Pos} {e a o:Expr} {es:List Expr} {ga:FnA} {fa fo:FnE}
theorem wS {K:ck} {H:Hp} {d:Dv} {v:V} (r:Rep K H d v) (hs:∀ ns,d≠.scr ns) (hx:∀ c,d≠.exn c):mH K H v (.type (tyD d)):=by
 cases d with
 | non=>cases (show v=.non from r); exact .non
 | bl b=>cases (show v=.bl b from r); exact .bl b
 | int b=>cases (show v=.int b from r); exact .int b
 | str b=>cases (show v=.str b from r); exact .str b
 | tup ds=>obtain ⟨a,xs,rfl,h,_⟩:=r.tupE; exact .tup h
 | lst ds=>obtain ⟨a,xs,rfl,h,_⟩:=r.lstE; exact .lst h
 | scr ns=>exact absurd rfl (hs ns)
 | exn c=>exact absurd rfl (hx c)
theorem tt (T:String):CallR X (.builtin "isinstance") (fun xs H Q=>∃ x t b,xs=[x,.ty T]∧mH X.K H x t∧IP X.K t (.type T)=some b∧Q (.bl b) H):=by
 intro pins s σ H xs us Q I r h
 obtain ⟨x,t,b,rfl,ty,hk,q⟩:=h
 obtain ⟨u,w',rfl,ru,rw'⟩:=zk r
 cases (show w'=GS T from rw')
 exact pI I ru ty hk fun tk=>⟨.bl b,H,I.tok tk,rfl,q⟩
def jm (tb:Dv→Bool):Dv→Option (Rs Dv)
 | .scr _=>none
 | .exn _=>none
 | d=>some (.ok (.bl (tb d)))
theorem mS {T:String} {tb:Dv→Bool} (hk:∀ K d,IP K (.type (tyD d)) (.type T)=some (tb d)) (hT:Hk (a_ T)=some (.type T)) (hn:a_ T≠"__name__") (hdT:(a_ T == ("__debug__":Str))=false)
 (hg:Gl X "isinstance") (hm:X.mg "isinstance"=none) (hgT:Gl X (a_ T)) (hmT:X.mg (a_ T)=none) (ha:FE X a fa)
 (hs1:e_ [a,.Name (a_ T) pT] X.env=(false,eval a X.env) :: e_ [.Name (a_ T) pT] X.env:=by kernel_rfl) (hs2:e_ [.Name (a_ T) pT] X.env=(false,eval (.Name (a_ T) pT) X.env) :: e_ [] X.env:=by kernel_rfl)
 (hpl:(GA pos (e_ [.Name (a_ T) pT] X.env)).any (·.1)=false:=by kernel_rfl) :
 FE X (.Call (.Name "isinstance" p) [a,.Name (a_ T) pT] [] pos) (f1 (jm tb) fa) :=
 bO (dC (tt T) hg hm Jg (cU ha.h (cU (pp (v:=.ty T) hgT hmT hT rfl hn hdT) jP hs2) hs1) (by decide) (by decide) hs1 hpl) fun σ H Q ρ E o=>⟨ρ,E,Out.bind o fun d v H1 e1 r o1=>by
  show ∃ x t b,[v,V.ty T]=[x,.ty T]∧_
  cases d with
  | scr ns=>exact o1.elim
  | exn c=>exact o1.elim
  | _=>exact ⟨v,_,_,rfl,wS r (fun ns z=>by cases z) (fun c z=>by cases z),hk X.K _,o1 _ H1 (.refl H1) rfl⟩⟩
def p0:Dv→Bool
 | .str _=>true
 | _=>false
theorem wT (K:ck) (d:Dv):IP K (.type (tyD d)) (.type "str")=some (p0 d):=by cases d <;> kernel_rfl
def oA:Dv→Bool
 | .tup _=>true
 | _=>false
theorem wU (K:ck) (d:Dv):IP K (.type (tyD d)) (.type "tuple")=some (oA d):=by cases d <;> kernel_rfl
def fT:Dv→Bool
 | .bl _=>true
 | _=>false
theorem tu (K:ck) (d:Dv):IP K (.type (tyD d)) (.type "bool")=some (fT d):=by cases d <;> kernel_rfl
def fM (g:Str→List Dv→Option (Rs Dv)) (fo:FnE) (ga:FnA):FnE:=fun ρ=>bnd (fo ρ) fun x=>match x with
 | .str i=>bnd (ga ρ) fun xs=>g i xs
 | _=>none
def wV (h:Str→Str→Bool):Str→List Dv→Option (Rs Dv)
 | x,[.str y]=>some (.ok (.bl (h x y)))
 | _,_=>none
def wW (h:Str→Str→Bool):V→List V→Hp→VK→Prop:=fun x xs H Q=>∃ i j,x=.str i∧xs=[.str j]∧Q (.bl (h i j)) H
theorem Dz:MtR X "str.startswith" (wW Lx):=by
 intro pins s σ H x xs v us Q I rx rs h
 obtain ⟨i,j,rfl,rfl,q⟩:=h
 obtain ⟨t,rfl⟩:=rx
 obtain ⟨u,rfl,ru⟩:=fq rs
 obtain ⟨t',rfl⟩:=ru
 exact SC.startswith ⟨.bl _,H,I,rfl,q⟩
theorem DA:MtR X "str.endswith" (wW N4):=by
 intro pins s σ H x xs v us Q I rx rs h
 obtain ⟨i,j,rfl,rfl,q⟩:=h
 obtain ⟨t,rfl⟩:=rx
 obtain ⟨u,rfl,ru⟩:=fq rs
 obtain ⟨t',rfl⟩:=ru
 exact SC.endswith ⟨.bl _,H,I,rfl,q⟩
theorem wX {name:Str} {id:String} {r:V→List V→Hp→VK→Prop} {g:Str→List Dv→Option (Rs Dv)} (slot:Slot "str" name id) (hty:Oe (.builtin id)=pure (.type "method_descriptor")) (hm:MtR X id r)
 (hg:∀ i ds vs H Q,Reps X.K H ds vs→Out X H (g i ds) Q→r (.str i) vs H Q) (ho:FE X o fo) (ha:FA X (e :: es) ga)
 (hbase:HV o name X.env (eval o X.env)=eval o X.env:=by kernel_rfl)
 (hfew:((GA cpos (e_ (e :: es) X.env)).all (fun x=>!x.1) && (Ii cpos (Hc [] X.env)).all (fun x=>x.1.isSome)
   && decide ((e :: es).length + ([]:List Ia).length + (if ([]:List Ia).isEmpty then 0 else 1) < 30))=true:=by kernel_rfl)
 (hline:(apos.endLine == cpos.line)=true:=by kernel_rfl) (hs:e_ (e :: es) X.env=(false,eval e X.env) :: e_ es X.env:=by kernel_rfl) (hplain:(GA cpos (e_ es X.env)).any (·.1)=false:=by kernel_rfl) :
 FE X (.Call (.Attribute o name apos) (e :: es) [] cpos) (fM g fo ga) :=
 bO (sU PySem.F.plainAttrs_str slot hty hm ho.h ha.h hbase hfew hline hs hplain) fun σ H Q ρ E o=>⟨ρ,E,Out.bind o fun d v H1 e1 rd o1=>by
  cases d <;> try exact (show False from o1).elim
  rename_i i
  cases (show v=.str i from rd)
  exact ⟨rfl,ρ,E.mono e1,OutA.bind o1 fun ds vs H2 e2 rs o2=>hg i ds vs H2 Q rs o2⟩⟩
theorem vA {h:Str→Str→Bool} (i:Str) (ds:List Dv) (vs:List V) (H:Hp) (Q:VK) (rs:Reps X.K H ds vs) (o:Out X H (wV h i ds) Q):wW h (.str i) vs H Q:=by
 unfold wV at o
 split at o
 · rename_i j
   obtain ⟨w,rfl,rw'⟩:=dg rs
   cases (show w=.str j from rw')
   exact ⟨i,j,rfl,rfl,o _ H (.refl H) rfl⟩
 · exact o.elim
def Ff (K:ck):R2:=fun x y H Q=>∃ (a b:Addr) (ns:List Int),x=.ref a∧y=.ref b∧SqL K H a (ns.map V.int)∧H b=some (.lst [])∧Q (.bl ns.isEmpty) H
theorem DB (hu:X.A.units < cLine):OpR X (Gx .Eq) (Ff X.K):=by
 intro pins s σ H x y v u Q I rx ry h
 obtain ⟨a,b,ns,rfl,rfl,h1,h2,q⟩:=h
 cases rx
 cases ry
 obtain ⟨its,r,pl,hz⟩:=I.list h1
 obtain ⟨z2,its2,n2,r2,hl2,e2⟩:=I.lstM h2
 cases r2
 have hb:s.heap.IsList b #[]:=⟨_,e2,rfl,_,rfl⟩
 have hl:=r.length
 cases ns with
 | nil =>
  have e0:its=[]:=by cases its with | nil=>rfl | cons _ _=>simp at hl
  subst e0
  exact SeqAt.eq_listAt (e:=fun _=>true) pl.isList hb rfl hu (fun i hi=>absurd hi (by simp)) (by first | exact ⟨.bl _,H,I,rfl,q⟩ | (refine ⟨.bl _,H,I,?_,q⟩; simp [RelV]))
 | cons n ns =>
  refine SeqAt.eq_list_lengthsAt pl.isList hb ?_ hu ⟨.bl _,H,I,rfl,q⟩
  have:0 < its.length:=by rw [← hl]; simp
  simp
  exact fun z=>by rw [z] at this; simp at this
def Cr:Dv→Dv→Option (Rs Dv)
 | .scr ns,.lst []=>some (.ok (.bl ns.isEmpty))
 | _,_=>none
theorem DC:GOp X (Ff X.K) Cr:=by
 intro dx dy x y H Q rx ry o
 unfold Cr at o
 split at o
 · rename_i ns
   obtain ⟨a,rfl,h1⟩:=rx.scrE
   obtain ⟨b,xs,rfl,h2,h3⟩:=ry.lstE
   cases (show xs=[] from h3)
   exact ⟨a,b,ns,rfl,rfl,h1,h2,o _ H (.refl H) rfl⟩
 · exact o.elim
end
end FD
namespace FD
open PySem
theorem z8:Hk (a_ "str")=some (.type "str"):=PyProof.Rows.boot_str
theorem tw:Hk (a_ "tuple")=some (.type "tuple"):=by decide +kernel
theorem wY:Hk (a_ "bool")=some (.type "bool"):=by decide +kernel
end FD
namespace FD
open PySem PySem.Spec PyProof.Rows L2
mutual
def bp:Dv→PyData
 | .non=>.none
 | .bl b=>.bool b
 | .int i=>.int i
 | .str x=>.str x
 | .tup xs=>.tuple (toPys xs)
 | .lst xs=>.list (toPys xs)
 | .scr ns=>.list (ns.map PyData.int)
 | .exn _=>.dict []
def toPys:List Dv→List PyData
 | []=>[]
 | d :: ds=>bp d :: toPys ds
end
section
variable {X:Cx} {pins:List (Addr×Obj)} {σ:L2.St} {H:Hp} {s:c_}
theorem iz:∀ {ns:List Int} {us:List Value},Vals (ns.map V.int) us→∃ as,ReadsAll s.heap us (ns.map PyData.int) as
 | [],us,r=>by cases r; exact ⟨_,.nil⟩
 | n :: ns,us,r=>by
  cases r with
  | cons r1 r2 =>
   obtain ⟨t,rfl⟩:=r1
   obtain ⟨as,q⟩:=iz r2
   exact ⟨_,.cons (.int n t) q⟩
mutual
theorem Rep.reads (I:Inv X pins σ H s):∀ (d:Dv) (v:V) (u:Value),Rep X.K H d v→RelV v u→(bp d).canLay0=true→∃ as,Reads s.heap u (bp d) as
 | .non,v,u,r,q,hz0=>by cases (show v=.non from r); cases (show u=GH from q); exact ⟨_,.none⟩
 | .bl b,v,u,r,q,hz0=>by cases (show v=.bl b from r); cases (show u=Hy b from q); exact ⟨_,.bool b⟩
 | .int i,v,u,r,q,hz0=>by cases (show v=.int i from r); obtain ⟨t,rfl⟩:=(show ∃ t,u=Nl i t from q); exact ⟨_,.int i t⟩
 | .str x,v,u,r,q,hz0=>by cases (show v=.str x from r); obtain ⟨t,rfl⟩:=(show ∃ t,u=Ki x t from q); exact ⟨_,.str x t⟩
 | .tup ds,v,u,r,q,hz0=>by
  obtain ⟨a,xs,rfl,h,rs⟩:=r.tupE
  cases (show u=q_ a from q)
  obtain ⟨its,rv,⟨o,e,c,n,d⟩,hz⟩:=I.tuple (SqT.of h)
  obtain ⟨as,ra⟩:=Reps.reads I ds xs its rs rv (by simpa [bp,G4] using hz0)
  exact ⟨as,.tuple e c d (by simpa using ra)⟩
 | .lst ds,v,u,r,q,hz0=>by
  obtain ⟨a,xs,rfl,h,rs⟩:=r.lstE
  cases (show u=q_ a from q)
  obtain ⟨z,its,n,rv,hl,e⟩:=I.lstM h
  obtain ⟨as,ra⟩:=Reps.reads I ds xs its rs rv (by simpa [bp,G4] using hz0)
  exact ⟨a :: as,.list e rfl rfl (by simpa using ra)⟩
 | .scr ns,v,u,r,q,hz0=>by
  obtain ⟨a,rfl,h⟩:=r.scrE
  cases (show u=q_ a from q)
  obtain ⟨its,rv,⟨o,n,e,c,hd,d⟩,hz⟩:=I.list h
  obtain ⟨as,ra⟩:=iz (s:=s) rv
  exact ⟨a :: as,.list e c d (by simpa using ra)⟩
 | .exn c,v,u,r,q,hz0=>by simp [bp,G4] at hz0
theorem Reps.reads (I:Inv X pins σ H s):∀ (ds:List Dv) (vs:List V) (us:List Value),Reps X.K H ds vs→Vals vs us→Ht (toPys ds)=true→∃ as,ReadsAll s.heap us (toPys ds) as
 | [],vs,us,r,q,_=>by cases (show vs=[] from r); cases q; exact ⟨_,.nil⟩
 | d :: ds,vs,us,r,q,hz0=>by
  obtain ⟨v,ws,rfl,r1,r2⟩:∃ v us,vs=v :: us∧Rep X.K H d v∧Reps X.K H ds us:=r
  cases q with
  | cons q1 q2 =>
   have hz1:(bp d).canLay0=true∧Ht (toPys ds)=true:=by simpa [toPys,Ht] using hz0
   obtain ⟨as,a⟩:=Rep.reads I d v _ r1 q1 hz1.1
   obtain ⟨bs,b⟩:=Reps.reads I ds ws _ r2 q2 hz1.2
   exact ⟨_,.cons a b⟩
end
end
section
variable {X:Cx}
def okP (d:Dv):Bool:=SeqAt.shaped (bp d)
def rPy (X:Cx) (neg:Bool):R2:=fun x y H Q=>∃ dx dy,Rep X.K H dx x∧Rep X.K H dy y∧okP dx=true∧okP dy=true∧Q (.bl (if neg then !GN (bp dx) (bp dy) else GN (bp dx) (bp dy))) H
theorem z9 (hu:X.A.units + 64 < cLine):OpR X (Gx .Eq) (rPy X false):=by
 intro pins s σ H x y v u Q I rx ry h
 obtain ⟨dx,dy,qx,qy,hx,hy,q⟩:=h
 obtain ⟨as,ra⟩:=Rep.reads I dx x v qx rx (GT.mp hx).1
 obtain ⟨bs,rb⟩:=Rep.reads I dy y u qy ry (GT.mp hy).1
 exact SeqAt.compareEq_shaped ra rb hx hy hu ⟨.bl _,H,I,rfl,q⟩
theorem Aa (hu:X.A.units + 64 < cLine):OpR X (Gx .NotEq) (rPy X true):=by
 intro pins s σ H x y v u Q I rx ry h
 obtain ⟨dx,dy,qx,qy,hx,hy,q⟩:=h
 obtain ⟨as,ra⟩:=Rep.reads I dx x v qx rx (GT.mp hx).1
 obtain ⟨bs,rb⟩:=Rep.reads I dy y u qy ry (GT.mp hy).1
 exact SeqAt.compareNe_shaped ra rb hx hy hu ⟨.bl _,H,I,rfl,q⟩
def eqX (x y:Dv):Option (Rs Dv):=match eqS x y with
 | some b=>some (.ok (.bl b))
 | none=>if okP x && okP y then some (.ok (.bl (GN (bp x) (bp y)))) else none
def neX (x y:Dv):Option (Rs Dv):=match eqS x y with
 | some b=>some (.ok (.bl (!b)))
 | none=>if okP x && okP y then some (.ok (.bl (!GN (bp x) (bp y)))) else none
def Fg (X:Cx):R2:=fun x y H Q=>rEq x y H Q∨rPy X false x y H Q
def Fh (X:Cx):R2:=fun x y H Q=>rNe x y H Q∨rPy X true x y H Q
theorem Ab (hu:X.A.units + 64 < cLine):OpR X (Gx .Eq) (Fg X):=op_eq.or (z9 hu)
theorem DD (hu:X.A.units + 64 < cLine):OpR X (Gx .NotEq) (Fh X):=op_ne.or (Aa hu)
theorem Ac:GOp X (Fg X) eqX:=by
 intro dx dy x y H Q rx ry o
 unfold eqX at o
 split at o
 · rename_i b hb
   obtain ⟨h1,h2⟩:=vy rx ry hb
   exact .inl ⟨h1,by rw [h2]; exact o _ H (.refl H) rfl⟩
 · split at o
   · rename_i hc
     rw [g_] at hc
     exact .inr ⟨dx,dy,rx,ry,hc.1,hc.2,o _ H (.refl H) rfl⟩
   · exact o.elim
theorem DE:GOp X (Fh X) neX:=by
 intro dx dy x y H Q rx ry o
 unfold neX at o
 split at o
 · rename_i b hb
   obtain ⟨h1,h2⟩:=vy rx ry hb
   exact .inl ⟨h1,by rw [h2]; exact o _ H (.refl H) rfl⟩
 · split at o
   · rename_i hc
     rw [g_] at hc
     exact .inr ⟨dx,dy,rx,ry,hc.1,hc.2,o _ H (.refl H) rfl⟩
   · exact o.elim
def ltX:Dv→Dv→Option (Rs Dv)
 | .int i,.int j=>some (.ok (.bl (decide (i < j))))
 | .str x,.str y=>some (.ok (.bl (decide (x.cps.toList < y.cps.toList))))
 | _,_=>none
def Fj:R2:=fun x y H Q=>rI0 (fun i j=>.bl (decide (i < j))) x y H Q∨∃ i j,x=.str i∧y=.str j∧Q (.bl (decide (i.cps.toList < j.cps.toList))) H
theorem DF:OpR X (Gx .Lt) Fj:=op_lt.or pG
theorem DG:GOp X Fj ltX:=by
 intro dx dy x y H Q rx ry o
 cases dx <;> cases dy <;> try exact (show False from o).elim
 · rename_i i j
   exact .inl ⟨i,j,rx,ry,o _ H (.refl H) rfl⟩
 · rename_i i j
   exact .inr ⟨i,j,rx,ry,o _ H (.refl H) rfl⟩
theorem j8:∀ (ps:List Str) (k:Nat),Vals (ps.map V.str) (strsFrom k ps)
 | [],_=>.nil
 | p :: ps,k=>.cons ⟨k,rfl⟩ (j8 ps (k + 1))
theorem j9 {K:ck} {H:Hp}:∀ ps:List Str,Reps K H (ps.map Dv.str) (ps.map V.str)
 | []=>rfl
 | p :: ps=>⟨.str p,ps.map V.str,rfl,rfl,j9 ps⟩
def mT:Str→List Dv→Option (Rs Dv)
 | x,[.str y]=>if y.length≠0∧x.length≤100000∧(Kj x y).length≤100000 then some (.ok (.lst ((Kj x y).map Dv.str))) else none
 | _,_=>none
def vB:V→List V→Hp→VK→Prop:=fun x xs H Q=>∃ i j,x=.str i∧xs=[.str j]∧j.length≠0∧i.length≤sizeLine∧(Kj i j).length≤sizeLine∧∀ p,H p=none→Q (.ref p) (upd H p (.lst ((Kj i j).map V.str)))
theorem tz:MtR X "str.split" vB:=by
 intro pins s σ H x xs v us Q I rx rs h
 obtain ⟨i,j,rfl,rfl,hj,hi,hn,q⟩:=h
 obtain ⟨t,rfl⟩:=rx
 obtain ⟨u,rfl,ru⟩:=fq rs
 obtain ⟨t',rfl⟩:=ru
 have hy:(j.length == 0)=false:=by simpa using hj
 have one:∀ {s':c_},s'={ s with heap:=s.heap.push { cls:=.type "list",data:=.seq [Ki i t].toArray } }→Kj i j=[i]→EP X pins σ Q (.ref s.heap.objs.size) s':=fun e e2=>by
  subst e
  rw [e2] at q
  exact ⟨.ref _,_,I.lnew (its:=[Ki i t]) (ys:=[V.str i]) (t':=s.toks) (.cons ⟨t,rfl⟩ .nil) (by show 1≤sizeLine; decide),rfl,q _ I.fresh⟩
 cases h1:(decide (i.length < j.length) || decide (Nv i < Nv j))
 · cases hf:(Hb i j 0 i.length (i.length + 1)).isEmpty
   · have e2:Kj i j=Builtin.Str.partsBetween i (Hb i j 0 i.length (i.length + 1)) j.length:=by
      unfold Kj
      rw [if_neg (by rw [h1]; exact on),if_neg (by rw [hf]; exact on)]
     rw [e2] at q hn
     refine Jv Ko (KS _ _ _) LR (LC _ _) (meets_str_split_sep i j t t' h1 hy hf hi hn) ?_
     exact ⟨.ref _,_,I.lnew (t':=_) (j8 _ _) (by rw [Gw]; exact hn),rfl,q _ I.fresh⟩
   · refine Jv Ko (KS _ _ _) LR (LC _ _) (meets_str_split_not_found i j t t' h1 hy hf) ?_
     exact one rfl (by unfold Kj; rw [if_neg (by rw [h1]; exact on),if_pos hf])
 · refine Jv Ko (KS _ _ _) LR (LC _ _) (meets_str_split_cannot_occur i j t t' h1) ?_
   exact one rfl (by unfold Kj; rw [if_pos h1])
theorem wZ (i:Str) (ds:List Dv) (vs:List V) (H:Hp) (Q:VK) (rs:Reps X.K H ds vs) (o:Out X H (mT i ds) Q):vB (.str i) vs H Q:=by
 unfold mT at o
 split at o
 · rename_i j
   split at o
   · rename_i hc
     obtain ⟨w,rfl,rw'⟩:=dg rs
     cases (show w=.str j from rw')
     exact ⟨i,j,rfl,rfl,hc.1,bg hc.2.1,bg hc.2.2,fun p hp=>o _ _ (au hp _) ⟨p,_,rfl,am,j9 _⟩⟩
   · exact o.elim
 · exact o.elim
def DH:List Dv→Option (List Str)
 | []=>some []
 | .str x :: r=>(match DH r with | some xs=>some (x :: xs) | none=>none)
 | _=>none
variable {p pos:Pos} {e:Expr} {es:List Expr} {ga:FnA}
def dN:List Dv→Option (Rs Dv)
 | [.lst xs]=>some (.ok (.tup xs))
 | [.tup xs]=>some (.ok (.tup xs))
 | _=>none
theorem tE (hg:Gl X "tuple") (hm:X.mg "tuple"=none) (ha:FA X (e :: es) ga) (he:e_ (e :: es) X.env=(false,eval e X.env) :: e_ es X.env:=by kernel_rfl) (hpl:(GA pos (e_ es X.env)).any (·.1)=false:=by kernel_rfl):FE X (.Call (.Name "tuple" p) (e :: es) [] pos) (fB1 dN ga) :=
 bO (jV jf hg hm (by decide +kernel) ha.h (by decide) (by decide) he hpl) fun σ H Q ρ E o=>⟨ρ,E,OutA.bind o fun ds vs H1 e1 rs o1=>by
  unfold dN at o1
  split at o1
  · rename_i xs
    obtain ⟨v,rfl,r⟩:=dg rs
    obtain ⟨a,ws,rfl,h1,h2⟩:=r.lstE
    exact ⟨a,ws,rfl,.inl ⟨SqL.of h1,fun l hl=>o1 _ _ (au hl _) ⟨l,ws,rfl,am,Reps.mono (au hl _) _ _ h2⟩⟩⟩
  · rename_i xs
    obtain ⟨v,rfl,r⟩:=dg rs
    obtain ⟨a,ws,rfl,h1,h2⟩:=r.tupE
    exact ⟨a,ws,rfl,.inr ⟨SqT.of h1,o1 _ H1 (.refl H1) ⟨a,ws,rfl,h1,h2⟩⟩⟩
  · exact o1.elim⟩
end
section
variable {X:Cx} {apos cpos:Pos} {e o:Expr} {es:List Expr} {ga:FnA} {fo:FnE}
def Ct (x:Dv):List Dv→Nat→Option Nat
 | [],_=>none
 | y :: ys,k=>if eqF y x then some k else Ct x ys (k + 1)
def DI:List Dv→List Dv→Option (Rs Dv)
 | xs,[x]=>if df x && xs.all df && decide (xs.length≤100000) then (match Ct x xs 0 with | some j=>some (.ok (.int j)) | none=>none) else none
 | _,_=>none
theorem p8 {K:ck} {H:Hp} {x:Dv} {u:V} (q:Rep K H x u) (hx:df x=true):∀ {xs:List Dv} {vs:List V} {k j:Nat},Reps K H xs vs→xs.all df=true→Ct x xs k=some j →
 k≤j∧(∃ v,vs[j - k]?=some v∧eqV v u=true)∧∀ (m:Nat) v,m < j - k→vs[m]?=some v→eqV v u=false
 | [],vs,k,j,r,_,h=>by cases h
 | y :: ys,vs,k,j,r,hf,h=>by
  obtain ⟨v,ws,rfl,r1,r2⟩:∃ v us,vs=v :: us∧Rep K H y v∧Reps K H ys us:=r
  rw [Hw,g_] at hf
  unfold Ct at h
  have e1:=pY r1 q hf.1 hx
  split at h
  · rename_i hh
    cases h
    refine ⟨l_ _,⟨v,by simp,by rw [e1]; exact hh⟩,fun m w hm=>by omega⟩
  · rename_i hh
    obtain ⟨a,⟨w,b1,b2⟩,c⟩:=p8 q hx r2 hf.2 h
    refine ⟨by omega,⟨w,?_,b2⟩,fun m z hm hz=>?_⟩
    · have e:j - k=(j - (k + 1)) + 1:=by omega
      rw [e,Kn]
      exact b1
    · cases m with
      | zero =>
       have:z=v:=by simpa using hz.symm
       subst this
       rw [e1]
       simpa using hh
      | succ m=>exact c m z (by omega) (by simpa using hz)
def Ad:V→List V→Hp→VK→Prop:=fun x xs H Q=>∃ a vs y j,x=.ref a∧xs=[y]∧H a=some (.lst vs)∧c7 y=true∧vs.all c7=true∧vs.length≤100000∧(∃ v,vs[j]?=some v∧eqV v y=true)∧(∀ (m:Nat) v,m < j→vs[m]?=some v→eqV v y=false)∧Q (.int j) H
theorem vC {y:V} {vs:List V} {its:List Value} (r:Vals vs its) (f:vs.all c7=true) {m:Nat} {v:V} (h:vs[m]?=some v):∃ hm:m < its.length,eqU y its[m]=eqV v y:=by
 obtain ⟨u,hu,ru⟩:=r.get h
 obtain ⟨hm,e⟩:=xy.mp hu
 refine ⟨hm,?_⟩
 rw [e]
 exact mL ru (Gv.mp f v (G6 h))
theorem tG:MtR X "list.index" Ad:=by
 intro pins s σ H x xs v us Q I rx rs h
 obtain ⟨a,vs,y,j,rfl,rfl,h1,fy,fv,hz,⟨w,hw,hit⟩,hno,q⟩:=h
 cases rx
 obtain ⟨u,rfl,ru⟩:=fq rs
 obtain ⟨z,its,n,rv,hl,e⟩:=I.lstM h1
 obtain ⟨hj,ej⟩:=vC (y:=y) rv fv hw
 refine Jv Me ⟨_,e,rfl⟩ PySem.F.entry_list_index (PySem.F.args_list_index_2 _ _) (SeqAt.list_indexAt a its.toArray n none #[] u (eqU y) j (by simpa using hj) (by omega) (by simpa [ej] using hit) fun m hm hlt=>?_) ⟨e,fun t ht=>cV ru fy rv fv t (by simpa using ht),⟨.int j,H,I.tok _,⟨_,rfl⟩,q⟩⟩
 have hm':m < vs.length:=by rw [rv.length]; simpa using hm
 obtain ⟨hm2,em⟩:=vC (y:=y) rv fv (n_ hm')
 have:=hno m vs[m] hlt (n_ hm')
 simpa [em] using this
def fML (g:List Dv→List Dv→Option (Rs Dv)) (fo:FnE) (ga:FnA):FnE:=fun ρ=>bnd (fo ρ) fun x=>match x with
 | .lst i=>bnd (ga ρ) fun xs=>g i xs
 | _=>none
theorem tH (ho:FE X o fo) (ha:FA X (e :: es) ga)
 (hbase:HV o "index" X.env (eval o X.env)=eval o X.env:=by kernel_rfl)
 (hfew:((GA cpos (e_ (e :: es) X.env)).all (fun x=>!x.1) && (Ii cpos (Hc [] X.env)).all (fun x=>x.1.isSome)
   && decide ((e :: es).length + ([]:List Ia).length + (if ([]:List Ia).isEmpty then 0 else 1) < 30))=true:=by kernel_rfl)
 (hline:(apos.endLine == cpos.line)=true:=by kernel_rfl) (hs:e_ (e :: es) X.env=(false,eval e X.env) :: e_ es X.env:=by kernel_rfl) (hplain:(GA cpos (e_ es X.env)).any (·.1)=false:=by kernel_rfl) :
 FE X (.Call (.Attribute o "index" apos) (e :: es) [] cpos) (fML DI fo ga) :=
 bO (sU Kl Me PySem.F.type_list_index tG ho.h ha.h hbase hfew hline hs hplain) fun σ H Q ρ E o=>⟨ρ,E,Out.bind o fun d v H1 e1 rd o1=>by
  cases d <;> try exact (show False from o1).elim
  rename_i ds
  obtain ⟨a,vs,rfl,h1,h2⟩:=rd.lstE
  refine ⟨.inl ⟨rfl,vs,SqL.of h1⟩,ρ,E.mono e1,OutA.bind o1 fun es ws H2 e2 rs o2=>?_⟩
  unfold DI at o2
  split at o2
  · rename_i x
    split at o2
    · rename_i hc
      rw [g_,g_] at hc
      split at o2
      · rename_i j hj
        obtain ⟨w,rfl,rw'⟩:=dg rs
        have h2':=Reps.mono e2 _ _ h2
        obtain ⟨c1,c2,c3⟩:=p8 rw' hc.1.1 h2' hc.1.2 hj
        refine ⟨a,vs,w,j,rfl,rfl,e2 _ _ h1,jh rw' hc.1.1,gd h2' hc.1.2,by rw [h2.length]; exact of_decide_eq_true hc.2,by simpa using c2,by simpa using c3,o2 _ H2 (.refl H2) rfl⟩
      · exact o2.elim
    · exact o2.elim
  · exact o2.elim⟩
end
structure FG (X:Cx) (tg:Expr) (b:Dv→Ev→Option Ev):Prop where
 h:∀ (pins:List (Addr×Obj)) (s:c_) (σ:L2.St) (H:Hp) (v:V) (u:Value) (d:Dv) (ρ ρ':Ev),Inv X pins σ H s→RelV v u→Rep X.K H d v→Envs X.K H σ ρ→b d ρ=some ρ' →
  m_ (pi X.prog X.w) X.A (Kr tg X.env u) (fun _ s'=>∃ σ' H',Inv X pins σ' H' s'∧Same H H'∧Envs X.K H' σ' ρ') X.xe s
def gN (i:Nat):Dv→Ev→Option Ev:=fun d ρ=>some (ρ.set i (some d))
def gP (i j:Nat):Dv→Ev→Option Ev:=fun d ρ=>match d with
 | .tup [a,c]=>some ((ρ.set i (some a)).set j (some c))
 | _=>none
section
variable {X:Cx} {pos p1 p2:Pos}
theorem w8 (i:Nat) {x:Str} (hN:X.N.Nodup) (hi:X.N[i]?=some x) (hx:Loc X.env.scope x) (hf:X.fn x=true∨X.env.scope.names.lookup x=some .local):FG X (.Name x pos) (gN i) :=
 ⟨fun pins s σ H v u d ρ ρ' I r rd E e=>by
  cases e
  exact thn (cT hN hi hx hf pins s σ H v u (fun σ' H'=>H'=H∧σ'=σ.set i (some v)) I r ⟨rfl,rfl⟩) fun _ s' ⟨σ',H',I',e1,e2⟩=>by
   subst e1 e2
   exact ⟨_,_,I',.refl _,E.set rd⟩⟩
theorem w9 (i j:Nat) {x y:Str} {k:Nat} (hc:X.calm=true) (hN:X.N.Nodup) (hi:X.N[i]?=some x) (hx:Loc X.env.scope x) (hf:X.fn x=true∨X.env.scope.names.lookup x=some .local)
 (hj:X.N[j]?=some y) (hy:Loc X.env.scope y) (hg:X.fn y=true∨X.env.scope.names.lookup y=some .local)
 (hs1:(GD [.Name x p1,.Name y p2] X.env).map (·.2)=Kr (.Name x p1) X.env :: (GD [.Name y p2] X.env).map (·.2):=by kernel_rfl) (hs2:(GD [.Name y p2] X.env).map (·.2)=Kr (.Name y p2) X.env :: (GD [] X.env).map (·.2):=by kernel_rfl)
 (hn:(GD [.Name x p1,.Name y p2] X.env).length=2:=by kernel_rfl) (hst:(GD [.Name x p1,.Name y p2] X.env).findIdx? (·.1)=none:=by kernel_rfl):FG X (.Tuple [.Name x p1,.Name y p2] k pos) (gP i j) :=
 ⟨fun pins s σ H v u d ρ ρ' I r rd E e=>by
  unfold gP at e
  split at e
  · rename_i a c
    cases e
    obtain ⟨ad,xs,rfl,h1,h2⟩:=rd.tupE
    obtain ⟨va,vc,rfl,ra,rc⟩:=z5 h2
    refine thn (vh (n:=2) hc (gc (cT (i:=i) hN hi hx hf) (gc (cT (i:=j) hN hj hy hg) pA hs2) hs1) hn hst pins s σ H _ u (fun σ' H'=>H'=H∧σ'=(σ.set i (some va)).set j (some vc)) I r ⟨ad,_,rfl,SqT.of h1,rfl,va,[vc],rfl,vc,[],rfl,rfl,rfl,rfl⟩) fun _ s' ⟨σ',H',I',e1,e2⟩=>?_
    subst e1 e2
    exact ⟨_,_,I',.refl _,(E.set ra).set rc⟩
  · cases e⟩
end
structure WkG (K:ck) (J:It) (ds:List Dv) (H0:Hp):Prop where
 go:∀ i H,Same H0 H→i < ds.length→J.go i H
 stop:∀ H,Same H0 H→J.stop ds.length H
 yld:∀ i H x H',Same H0 H→i < ds.length→J.yld i H x H'→Same H H'∧∃ d,ds[i]?=some d∧Rep K H' d x
theorem Wk.toG {K:ck} {J:It} {ds:List Dv} {H0:Hp} (w:Wk K J ds H0):WkG K J ds H0 :=
 ⟨w.go,w.stop,fun i H x H' e hi y=>by
  obtain ⟨rfl,d,h1,h2⟩:=w.yld i H x H' e hi y
  exact ⟨.refl _,d,h1,h2⟩⟩
def OutG (X:Cx) (H:Hp) (o:Option (Rs (List Dv))) (R:It→Hp→Prop):Prop:=match o with
 | none=>False
 | some (.exc c)=>XW X c H
 | some (.ok ds)=>∀ J H',Same H H'→WkG X.K J ds H'→R J H'
theorem OutG.mono {X:Cx} {H H':Hp} {R:It→Hp→Prop} (e:Same H H'):∀ {o:Option (Rs (List Dv))},OutG X H o R→OutG X H' o R
 | none,h=>h
 | some (.exc _),h=>XW.mono h e
 | some (.ok _),h=>fun v H1 e1 r=>h v H1 (e.trans e1) r
structure FIG (X:Cx) (tg iter:Expr) (f:FnA):Prop where
 h:PI X tg iter fun σ H R=>∃ ρ,Envs X.K H σ ρ∧OutG X H (f ρ) R
theorem FI.toG {X:Cx} {tg iter:Expr} {f:FnA} (h:FI X tg iter f):FIG X tg iter f :=
 ⟨fun pins s σ H R I ⟨ρ,E,o⟩=>h.h pins s σ H R I ⟨ρ,E,by
  match hf:f ρ,o with
  | some (.exc c),o=>exact o
  | some (.ok ds),o=>exact fun J H' e w=>o J H' e w.toG⟩⟩
def dS (m:Nat) (cs:List (Str×Nat)) (ρ:Ev):Ev:=rl m none ++ cs.map fun c=>(ρ[c.2]?).join
def iB (b:Dv→Ev→Option Ev) (tst:Option FnB) (elt:FnE) (cap:Ev):List Dv→Option (List Dv)
 | []=>some []
 | d :: ds=>match b d cap with
  | none=>none
  | some ρ=>match (match tst with | none=>(some (.ok true):Option (Rs Bool)) | some t=>t ρ) with
   | some (.ok true)=>(match elt ρ with
    | some (.ok y)=>(match iB b tst elt cap ds with | some ys=>some (y :: ys) | none=>none)
    | _=>none)
   | some (.ok false)=>iB b tst elt cap ds
   | _=>none
structure DJ (osc scope:Scope) (cs:List (Str×Nat)) (N:List Str):Prop where
 kind:scope.kind=.function
 cell:∀ y∈scope.names,y.2≠.cell
 names:∀ y∈scope.names,y.2=.local→scope.names.lookup y.1=some .local
 free:∀ y∈scope.names,y.2=.free→osc.names.lookup y.1=some .cell∨osc.names.lookup y.1=some .free
 caps:∀ c∈cs,N[c.2]?=some c.1∧scope.names.lookup c.1=some .free
def ka (m:Nat) (cs:List (Str×Nat)) (σ:L2.St):L2.St:=rl m none ++ cs.map fun c=>(σ[c.2]?).join
theorem kc {α:Type} {m i:Nat} {v:α} {l:List (Option α)} (h:(rl m (none:Option α) ++ l)[i]?=some (some v)):∃ k,i=m + k∧l[k]?=some (some v):=by
 by_cases hi:i < m
 · rw [HP (by simpa using hi),IU,if_pos hi] at h
   cases h
 · refine ⟨i - m,by omega,?_⟩
   rw [Hh (by simpa using hi)] at h
   simpa using h
theorem p9 {K:ck} {H:Hp} {σ:L2.St} {ρ:Ev} (m:Nat) (cs:List (Str×Nat)) (E:Envs K H σ ρ):Envs K H (ka m cs σ) (dS m cs ρ):=by
 refine ⟨by simp [ka,dS],fun i d h=>?_⟩
 obtain ⟨k,rfl,hk⟩:=kc h
 rw [E_] at hk
 cases hc:cs[k]? with
 | none=>rw [hc] at hk; simp at hk
 | some c =>
  rw [hc] at hk
  simp only [HN,IA] at hk
  have h2:ρ[c.2]?=some (some d):=by
   cases q:ρ[c.2]? with
   | none=>rw [q] at hk; simp at hk
   | some o=>rw [q] at hk; simp at hk; rw [hk]
  obtain ⟨v,h3,h4⟩:=E.at' c.2 d h2
  refine ⟨v,?_,h4⟩
  unfold ka
  rw [Hh (by simp)]
  simp only [Ip,Mq,E_,hc,HN,h3]
  rfl
theorem kf {prog:Program} {w:x_} {A:u_} {R:NK→c_→Prop} {s:c_} {elt target iter:Expr} {ifs:List Expr} {scope:Scope} {pos:Pos} {it acc:Value} {env:Env} (I:Nat→c_→Prop)
 (turn:∀ n s,I n s→m_ (pi prog w) A (Lb it) (fun r s₁=>match r with
   | none=>R (.ok .next) s₁
   | some v=>m_ (pi prog w) A (Ld target it v) (fun _ s₀=>m_ (pi prog w) A (Kr target env v) (fun _ s₂ =>
    m_ (pi prog w) A (O7 ifs true fun c r=>if r=true then do let ok ← isTrue c env (eval c env); pure (Li ok) else pure (Li r)) (fun ok s₃ =>
     if ok=true then m_ (pi prog w) A (eval elt env) (fun x s₄ =>
      m_ (pi prog w) A (call (.builtin "list.append") [acc,x]) (fun _ s₅=>∃ m,m < n∧I m s₅) (Mz (pi prog w) A env fun e s'=>R (.error e) s') s₄) (Mz (pi prog w) A env fun e s'=>R (.error e) s') s₃
     else ∃ m,m < n∧I m s₃) (Mz (pi prog w) A env fun e s'=>R (.error e) s') s₂) (Mz (pi prog w) A env fun e s'=>R (.error e) s') s₀) (Mz (pi prog w) A env fun e s'=>R (.error e) s') s₁) (Mz (pi prog w) A env fun e s'=>R (.error e) s') s)
 (n:Nat) (h:I n s) :
 Kq (pi prog w) A (.compLoop (.ListComp elt [⟨target,iter,ifs,0⟩] scope pos) 0 it acc env) R s:=by
 refine codeAny_loop rfl I (fun n s hI=>?_) n h
 show m_ _ A ((compTurn (.ListComp elt [⟨target,iter,ifs,0⟩] scope pos) 0 it acc env).onRaise (fun x=>do Of x env; theTreesLotGoes x)) _ _ s
 refine wpAny_noted ?_
 rw [compTurn_list]
 refine b_ (wpAny_standAt (b_ (GC (turn n s hI) (fun r s₁ h₁=>?_) fun _ _ h'=>h')))
 cases r with
 | none=>exact d_ h₁
 | some v =>
  refine b_ (GC h₁ (fun _ s₀ h₀=>?_) fun _ _ h'=>h')
  refine b_ (GC h₀ (fun _ s₂ h₂=>b_ (GC h₂ (fun ok s₃ h₃=>?_) fun _ _ h'=>h')) fun _ _ h'=>h')
  cases ok with
  | false =>
   rw [if_neg on] at h₃
   first
    | exact b_ (d_ (d_ ⟨rfl,h₃⟩))
    | exact d_ ⟨rfl,h₃⟩
    | (show m_ _ _ (again _) _ _ _; exact d_ ⟨rfl,h₃⟩)
  | true =>
   rw [if_pos rfl] at h₃
   first
    | exact b_ (b_ (GC h₃ (fun x s₄ h₄=>b_ (GC h₄ (fun _ s₅ h₅=>d_ (d_ ⟨rfl,h₅⟩)) fun _ _ h'=>h')) fun _ _ h'=>h'))
    | exact b_ (GC h₃ (fun x s₄ h₄=>b_ (GC h₄ (fun _ s₅ h₅=>d_ ⟨rfl,h₅⟩) fun _ _ h'=>h')) fun _ _ h'=>h')
def aY (m:Nat) (cs:List (Str×Nat)) (src:FnA) (b:Dv→Ev→Option Ev) (tst:Option FnB) (elt:FnE):FnE:=fun ρ=>bnd (src ρ) fun ds=>match iB b tst elt (dS m cs ρ) ds with
 | some ys=>if ys.length≤100000∧ds.length≤100000 then some (.ok (.lst ys)) else none
 | none=>none
theorem DK {m:Nat} {cs:List (Str×Nat)} {src:FnA} {b:Dv→Ev→Option Ev} {tst:Option FnB} {fe:FnE} {ρ:Ev} {o:Rs Dv} (h:aY m cs src b tst fe ρ=some o) :
 (∃ c,src ρ=some (.exc c)∧o=.exc c)∨∃ ds ys,src ρ=some (.ok ds)∧iB b tst fe (dS m cs ρ) ds=some ys∧ds.length≤100000∧ys.length≤100000∧o=.ok (.lst ys):=by
 unfold aY at h
 match hf:src ρ with
 | none=>rw [hf] at h; cases h
 | some (.exc c)=>rw [hf] at h; cases h; exact .inl ⟨c,rfl,rfl⟩
 | some (.ok ds) =>
  rw [hf] at h
  dsimp only [bnd] at h
  match hm:iB b tst fe (dS m cs ρ) ds with
  | none=>rw [hm] at h; cases h
  | some ys =>
   rw [hm] at h
   dsimp only at h
   split at h
   · rename_i hl
     cases h
     exact .inr ⟨ds,ys,rfl,hm,hl.2,hl.1,rfl⟩
   · cases h
theorem xb (cs:List (Str×Nat)) (ρ:Ev) (d:Dv) (ρ':Ev) (h:gN 0 d (dS 1 cs ρ)=some ρ'):fgt [0] ρ'=dS 1 cs ρ:=by
 cases h
 rfl
theorem DM (cs:List (Str×Nat)) (ρ:Ev) (d:Dv) (ρ':Ev) (h:gP 0 1 d (dS 2 cs ρ)=some ρ'):fgt [0,1] ρ'=dS 2 cs ρ:=by
 unfold gP at h
 split at h
 · cases h
   rfl
 · cases h
def eM:Nat→List Dv→List Dv
 | _,[]=>[]
 | k,d :: ds=>.tup [.int k,d] :: eM (k + 1) ds
theorem dh:∀ (ds:List Dv) (k:Nat),(eM k ds).length=ds.length
 | [],_=>rfl
 | d :: ds,k=>by show (eM (k + 1) ds).length + 1=ds.length + 1; rw [dh]
theorem kg:∀ (ds:List Dv) (k i:Nat) (d:Dv),ds[i]?=some d→(eM k ds)[i]?=some (.tup [.int ((k + i:Nat):Int),d])
 | [],_,_,_,h=>by simp at h
 | d :: ds,k,0,d',h=>by simp at h; subst h; rfl
 | d :: ds,k,i + 1,d',h=>by
  have q:=kg ds (k + 1) i d' (by simpa using h)
  show (Dv.tup [.int k,d] :: eM (k + 1) ds)[i + 1]?=_
  rw [Kn,q]
  have e:k + 1 + i=k + (i + 1):=by omega
  rw [e]
section
variable {X:Cx} {pos p1:Pos}
end
theorem ay {a b:FnS} {ρ ρ':Ev} (h:a ρ=some (.nx ρ')):bn a b ρ=b ρ':=by
 unfold bn; rw [h]; rfl
theorem xf {a b:FnS} {ρ:Ev} {d:Dv} (h:a ρ=some (.rt d)):bn a b ρ=some (.rt d):=by
 unfold bn; rw [h]; rfl
theorem bW {c:FnB} {f:FnS} {ρ:Ev} (h:c ρ=some (.ok false)):dI c f (fun ρ=>some (.nx ρ)) ρ=some (.nx ρ):=by
 unfold dI; rw [h]; rfl
theorem aZ {i:Nat} {v:FnE} {ρ ρ':Ev} {d:Dv} (h:v ρ=some (.ok d)) (e:ρ.set i (some d)=ρ'):c8 i v ρ=some (.nx ρ'):=by
 unfold c8; rw [h,← e]; rfl
theorem tI {v:FnE} {ρ:Ev} {d:Dv} (h:v ρ=some (.ok d)):eI v ρ=some (.nx ρ):=by
 unfold eI; rw [h]; rfl
theorem gz {v:FnE} {ρ:Ev} {d:Dv} (h:v ρ=some (.ok d)):bh v ρ=some (.rt d):=by
 unfold bh; rw [h]; rfl
theorem qa {i:Nat} {js:List Nat} {src:FnA} {body:FnS} {ρ:Ev} {ds:List Dv} (h:src ρ=some (.ok ds)):tf i js src body ρ=ik i js body ds ρ:=by
 unfold tf; rw [h]; rfl
theorem Ae {a b:FnB} {ρ:Ev} (h:a ρ=some (.ok true)):ow a b ρ=b ρ:=by unfold ow; rw [h]; rfl
theorem Ag {a b:FnB} {ρ:Ev} (h:a ρ=some (.ok false)):ow a b ρ=some (.ok false):=by unfold ow; rw [h]; rfl
theorem xg {a:FnB} {ρ:Ev} {k:Bool} (h:a ρ=some (.ok k)):gw a ρ=some (.ok (!k)):=by unfold gw; rw [h]; rfl
theorem bX {f:FnE} {ρ:Ev} {k:Bool} (h:f ρ=some (.ok (.bl k))):fB f ρ=some (.ok k):=by unfold fB; rw [h]; rfl
theorem a5 {g:Dv→Dv→Option (Rs Dv)} {f h:FnE} {ρ:Ev} {x y:Dv} (hf:f ρ=some (.ok x)) (hh:h ρ=some (.ok y)):f2 g f h ρ=g x y:=by unfold f2; rw [hf,hh]; rfl
theorem qb {i:Nat} {ρ:Ev} {d:Dv} (h:ρ[i]?=some (some d)):ac i ρ=some (.ok d):=by unfold ac; rw [h]
theorem aj {f:FnE} {g:FnA} {ρ:Ev} {x:Dv} {xs:List Dv} (h:f ρ=some (.ok x)) (t:g ρ=some (.ok xs)):aa f g ρ=some (.ok (x :: xs)):=by unfold aa; rw [h,t]; rfl
theorem aG {ρ:Ev}:ae ρ=some (.ok []):=rfl
theorem jn {F:List Dv→Option (Rs Dv)} {n:Nat} {g:FnA} {ρ:Ev} {ds:List Dv} {d:Dv} (h:g ρ=some (.ok ds)) (hl:ds.length=n) (hF:F ds=some (.ok d)):ah F n g ρ=some (.ok d):=by
 unfold ah; rw [h]
 show (if _ then _ else _)=_
 rw [if_pos hl,hF]
theorem cz (F:List Dv→Option (Rs Dv)) {f:FnE} {ρ:Ev} {a d:Dv} (h:f ρ=some (.ok a)) (hF:F [a]=some (.ok d)):ah F 1 (aa f ae) ρ=some (.ok d):=jn (aj h aG) rfl hF
theorem DN (F:List Dv→Option (Rs Dv)) {f g:FnE} {ρ:Ev} {a b d:Dv} (h:f ρ=some (.ok a)) (h':g ρ=some (.ok b)) (hF:F [a,b]=some (.ok d)):ah F 2 (aa f (aa g ae)) ρ=some (.ok d):=jn (aj h (aj h' aG)) rfl hF
theorem di {g:FnA} {ρ:Ev} {ds:List Dv} (h:g ρ=some (.ok ds)) (hl:ds.length≤100000):bc g ρ=some (.ok (.tup ds)):=by
 unfold bc; rw [h]
 show (if _ then _ else _)=_
 rw [if_pos hl]
theorem Ah {f g:FnE} {ρ:Ev} (h:f ρ=some (.ok (.bl false))):mO f g ρ=some (.ok (.bl false)):=by unfold mO; rw [h]; rfl
theorem Ai {f g:FnE} {ρ:Ev} (h:f ρ=some (.ok (.bl true))):mO f g ρ=g ρ:=by unfold mO; rw [h]; rfl
theorem dj {g:List Dv→Option (Rs Dv)} {a:FnA} {ρ:Ev} {ds:List Dv} (h:a ρ=some (.ok ds)):fB1 g a ρ=g ds:=by unfold fB1; rw [h]; rfl
theorem c5 {n:Nat} {B:FnS} {ds:List Dv} {d:Dv} (h:B (ds.map some ++ rl (n - ds.length) none)=some (.rt d)):bV n B ds=some (.ok d):=by
 unfold bV; rw [h]
section
variable {prog:Program} {w:x_} {A:u_} {E:Value→c_→Prop}
end
section
variable {X:Cx} {pos p1:Pos}
end
structure Aft (X:Cx) (e:Addr) (Ts:List Addr) (h h':Heap):Prop where
 keep:∀ b o,h.get? b=some o→b≠e→b ∉ Ts→b ∉ frs X.stack→h'.get? b=some o
 slot:∀ b o,h.get? b=some o→b∈frs X.stack→∃ sl,h'.get? b=some { o with slots:=sl }
section
variable {X:Cx} {pins:List (Addr×Obj)} {σ:L2.St} {H:Hp} {s:c_} {e:Addr} {Ts:List Addr} {h':Heap}
theorem Aft.any {h:Heap} (A:Aft X e Ts h h') {b:Addr} {o:Obj} (q:h.get? b=some o) (n1:b≠e) (n2:b ∉ Ts):∃ sl,h'.get? b=some { o with slots:=sl }:=by
 by_cases hb:b∈frs X.stack
 · exact A.slot b o q hb
 · exact ⟨o.slots,A.keep b o q n1 n2 hb⟩
theorem Inv.aft (I:Inv X pins σ H s) (A:Aft X e Ts s.heap h') (hex:X.ex=[]) (hf:∀ b,b=e∨b∈Ts→H b=none∧X.s₀.heap.get? b=none∧(∀ p∈X.pn ++ pins,p.1≠b)∧∃ o vs,s.heap.get? b=some o∧o.data=.fields vs) :
 Inv X pins σ H { s with heap:=h' }:=by
 have nE:∀ b,H b≠none→b≠e∧b ∉ Ts:=fun b hb=>⟨fun z=>hb (hf b (.inl z)).1,fun z=>hb (hf b (.inr z)).1⟩
 have n0:∀ b o,X.s₀.heap.get? b=some o→b≠e∧b ∉ Ts:=fun b o hb=>⟨fun z=>(by simp:(some o:Option Obj)≠none) (hb.symm.trans (hf b (.inl z)).2.1),fun z=>(by simp:(some o:Option Obj)≠none) (hb.symm.trans (hf b (.inr z)).2.1)⟩
 have nx:∀ b,b ∉ X.ex:=fun b=>by rw [hex]; simp
 have nD:∀ b o,s.heap.get? b=some o→(∀ vs,o.data≠.fields vs)→b≠e∧b ∉ Ts:=fun b o hb hd =>
  have go:(b=e∨b∈Ts)→False:=fun z=>by
   obtain ⟨o',vs,q,d⟩:=(hf b z).2.2.2
   rw [hb] at q
   cases q
   exact hd vs d
  ⟨fun z=>go (.inl z),fun z=>go (.inr z)⟩
 have nS:∀ b∈frs X.stack,H b=none:=I.stkFree
 have cellK:∀ c v,s.heap.IsCell c v→h'.IsCell c v:=fun c v ⟨o,ho,hd⟩=>by
  obtain ⟨n1,n2⟩:=nD c o ho fun vs q=>by rw [hd] at q; cases q
  obtain ⟨sl,q⟩:=A.any ho n1 n2
  exact ⟨_,q,hd⟩
 refine ⟨I.ok,I.os,I.bare,⟨fun b o q n hb hx=>?_,fun b o q n hb hx=>?_,I.base.free,fun b o q hx=>?_,I.base.tups,I.base.frzs,I.base.tbls⟩,?_,fun x c q=>?_,I.free,I.freeC,fun p hp=>?_,fun a o q=>?_,I.len⟩
 · have h1:=I.base.keep b o q n hb hx
   obtain ⟨n1,n2⟩:=n0 b o q
   refine A.keep b o h1 n1 n2 fun z=>?_
   rcases p_.mp (I.stkSub b z) with z | z
   · exact absurd z (z_ (A_ (o_ q) I.ok.above))
   · exact hb z
 · obtain ⟨sl,h1⟩:=I.base.slot b o q n hb hx
   obtain ⟨n1,n2⟩:=n0 b o q
   obtain ⟨sl',h2⟩:=A.any h1 n1 n2
   exact ⟨sl',h2⟩
 · obtain ⟨o',h1⟩:=I.base.there b o q hx
   obtain ⟨n1,n2⟩:=n0 b o q
   obtain ⟨sl,h2⟩:=A.any h1 n1 n2
   exact ⟨_,h2⟩
 · obtain ⟨m,⟨o,es,ep,ho,hd,r⟩,hl⟩:=I.loc
   obtain ⟨n1,n2⟩:=nD _ o ho fun vs q=>by rw [hd] at q; cases q
   obtain ⟨sl,q⟩:=A.any ho n1 n2
   refine ⟨m,⟨_,es,ep,q,hd,r⟩,fun i x v e1 e2 e3=>?_⟩
   obtain ⟨u,ru,l⟩:=hl i x v e1 e2 e3
   refine ⟨u,ru,?_⟩
   rcases l with l | ⟨k,c,ec,z⟩
   · exact .inl l
   · exact .inr ⟨k,c,ec,cellK c _ z⟩
 · obtain ⟨v,z⟩:=I.cell x c q
   exact ⟨v,cellK c v z⟩
 · obtain ⟨q,n,ne,nf,d⟩:=I.pin p hp
   have n1:p.1≠e:=(hf e (.inl rfl)).2.2.1 p hp
   have n2:p.1 ∉ Ts:=fun z=>(hf p.1 (.inr z)).2.2.1 p hp rfl
   refine ⟨A.keep p.1 p.2 q n1 n2 fun z=>?_,n,ne,nf,d⟩
   rcases p_.mp (I.stkSub _ z) with z | z
   · exact ne z
   · exact nf z
 · refine (I.hok a o q).stay (fun b u hb hu=>?_) (fun _ z=>z) fun _ _ z=>z
   have hn:H b≠none:=by
    rcases hb with rfl | hb
    · rw [q]; simp
    · rw [hb]; simp
   exact A.keep b u hu (nE b hn).1 (nE b hn).2 fun z=>hn (nS b z)
abbrev hid (X:Cx) (e:Addr) (Ts:List Addr) (h:Heap):Heap:=OB h (e :: (Ts ++ frs X.stack))
theorem mU (I:Inv X pins σ H s) (k:(hid X e Ts s.heap).StaysIn h') (u:∀ b o,s.heap.get? b=some o→(∀ vs,o.data≠.fields vs)→∃ sl,h'.get? b=some { o with slots:=sl }):Aft X e Ts s.heap h' :=
 ⟨fun b o q n1 n2 n3=>k b o (Lk _ q (by simp only [p_,F_]; rintro (z | z | z); exact n1 z; exact n2 z; exact n3 z)),fun b o q hb=>by
  obtain ⟨_,o',q',d⟩:=I.stack.mem hb
  rw [q] at q'
  cases q'
  exact u b o q d⟩
theorem jo (I:Inv X pins σ H s):s.heap.FunFrames (hid X e Ts s.heap) X.stack :=
 PySem.W.funFrames_hide I.stack fun env he a hfa=>k_ _ (s_ _ (HU.mpr ⟨env,he,hfa⟩))
end
section
variable {X:Cx} {pins:List (Addr×Obj)} {σ:L2.St} {H:Hp} {s:c_} {e:Addr} {cls:Value}
theorem Fly.imp {N N':Addr→Prop} {h:Heap} (F:Fly N H e cls h) (k:∀ a,N a→N' a):Fly N' H e cls h:=by
 obtain ⟨h1,h2,oe,vs,a0,q1,q2,q3,q4,q5⟩:=F
 refine ⟨h1,k _ h2,oe,vs,a0,q1,q2,q3,q4,?_⟩
 rcases q5 with q5 | ⟨T,oT,ts,r1,r2,r3,r4,r5⟩
 · exact .inl q5
 · exact .inr ⟨T,oT,ts,r1,r2,r3,k _ r4,r5⟩
theorem vD {h':Heap} {Ts:List Addr} (I:Inv X pins σ H s) (hex:X.ex=[]) (he:H e=none∧X.s₀.heap.get? e=none) (hT:∀ T∈Ts,H T=none∧X.s₀.heap.get? T=none) (ff:h'.FunFrames (hid X e Ts s.heap) X.stack)
 {T:Addr} {oT:Obj} {ts:Array Value} (hn:(hid X e Ts s.heap).get? T=none) (ne:T≠e) (hg:h'.get? T=some oT) (hd:oT.data=.fields ts):H T=none∧X.s₀.heap.get? T=none:=by
 have nf:T ∉ frs X.stack:=fun z=>by
  obtain ⟨_,o,q,d⟩:=ff.mem z
  rw [hg] at q
  cases q
  exact d ts hd
 have out:T∈Ts∨s.heap.get? T=none:=by
  cases q:s.heap.get? T with
  | none=>exact .inr rfl
  | some o =>
   by_cases hm:T∈Ts
   · exact .inl hm
   · have:=Lk (e :: (Ts ++ frs X.stack)) q (by simp only [p_,F_]; rintro (z | z | z); exact ne z; exact hm z; exact nf z)
     rw [hn] at this
     cases this
 rcases out with hm | hm
 · exact hT T hm
 · constructor
   · cases q:H T with
     | none=>rfl
     | some u =>
      have hk:=I.hok T u q
      exfalso
      have:∃ o,s.heap.get? T=some o:=by
       clear q
       induction u with
       | lst xs=>obtain ⟨_,_,_,_,z⟩:=hk; exact ⟨_,z⟩
       | tup xs=>obtain ⟨_,_,_,o,z,_⟩:=hk; exact ⟨_,z⟩
       | dK kvs=>obtain ⟨_,_,_,_,o,_,_,z,_⟩:=hk; exact ⟨_,z⟩
       | dT kvs=>obtain ⟨_,_,_,_,o,_,_,z,_⟩:=hk; exact ⟨_,z⟩
       | set S n=>obtain ⟨o,_,_,_,z,_⟩:=hk; exact ⟨_,z⟩
       | ins C dx fs=>obtain ⟨_,_,_,z,_⟩:=hk; exact ⟨_,z⟩
       | own y=>obtain ⟨_,z⟩:=hk; exact ⟨_,z⟩
       | xd fs=>obtain ⟨_,⟨_,_,_,z,_⟩,_⟩:=hk; exact ⟨_,z⟩
       | rng lo hi=>obtain ⟨_,_,_,z⟩:=hk; exact ⟨_,z⟩
       | frz ob u ih=>obtain ⟨z,_⟩:=hk; exact ⟨_,z⟩
       | tbl ps=>exact ⟨_,(show s.heap.get? T=some _ from hk)⟩
       | met f y=>exact ⟨_,(show s.heap.get? T=some _ from hk)⟩
       | ext φ=>obtain ⟨_,⟨_,z⟩,_⟩:=hk; exact ⟨_,z⟩
      obtain ⟨o,z⟩:=this
      rw [hm] at z
      cases z
   · cases q:X.s₀.heap.get? T with
     | none=>rfl
     | some o =>
      obtain ⟨o',z⟩:=I.base.there T o q (by rw [hex]; simp)
      rw [hm] at z
      cases z
theorem qc (I:Inv X pins σ H s) (hex:X.ex=[]) (hst:X.stack=X.env :: X.outer) (hfm:X.env.frame=some X.env.locals) (F:Fly (fun a=>X.s₀.heap.get? a=none) H e cls s.heap)
 {Q:Unit→c_→Prop} {E:Value→c_→Prop} (k:∀ h' Ts,Fly (fun a=>X.s₀.heap.get? a=none) H e cls h'→Aft X e Ts s.heap h'→(∀ b,b=e∨b∈Ts→H b=none∧X.s₀.heap.get? b=none∧∃ o vs,s.heap.get? b=some o∧o.data=.fields vs)→Q () { s with heap:=h' }) :
 m_ (pi X.prog X.w) X.A (leaving X.env (.ref e)) Q E s:=by
 obtain ⟨f1,f2,oe,vs,a0,q1,q2,q3,q4,q5⟩:=F
 have hfr:X.A.frames=some (X.env :: X.outer):=hst ▸ I.ok.frames
 subst q2
 rcases q5 with q5 | ⟨T,oT,ts,r1,r2,r3,r4,r5,r6,r7⟩
 · have b3:s.heap.FunFrames (hid X e [] s.heap) (X.env :: X.outer):=hst ▸ jo I
   refine wpAny_leaving_firstW (base:=hid X e [] s.heap) hfr b3 hfm q1 (fun b o z=>IZ _ z) (HB _ (j_ ..)) q3 q5 q4 fun h' hL=>?_
   obtain ⟨k1,k2,⟨oe',vs',T,oT,ts,t1,⟨t2,t3⟩,t4,t5,t6,t7,t8,t9,t10⟩,k4⟩:=hL
   have k2':h'.FunFrames (hid X e [] s.heap) X.stack:=hst ▸ k2
   have nT:=vD I hex ⟨f1,f2⟩ (fun _ z=>absurd z (by simp)) k2' t6 t7 t8 t9
   refine k h' [] ⟨f1,f2,oe',vs',a0,t1,t2,t4,t3,.inr ⟨T,oT,ts,t5,t7,nT.1,nT.2,t8,t9,t10⟩⟩ (mU I k1 k4) fun b hb=>?_
   rcases hb with rfl | hb
   · exact ⟨f1,f2,oe,vs,q1,q3⟩
   · cases hb
 · have b3:s.heap.FunFrames (hid X e [T] s.heap) (X.env :: X.outer):=hst ▸ jo I
   have ht:s.heap.TracedW (hid X e [T] s.heap) e oe.cls a0:=⟨oe,vs,T,oT,ts,q1,⟨rfl,q4⟩,q3,r1,HB _ (by simp),r2,r5,r6,r7⟩
   refine wpAny_leaving_nextW (base:=hid X e [T] s.heap) hfr b3 hfm ht (fun b o z=>IZ _ z) (HB _ (j_ ..)) fun h' hL=>?_
   obtain ⟨k1,k2,⟨oe',vs',T',oT',ts',t1,⟨t2,t3⟩,t4,t5,t6,t7,t8,t9,t10⟩,k4⟩:=hL
   have k2':h'.FunFrames (hid X e [T] s.heap) X.stack:=hst ▸ k2
   have nT:=vD I hex ⟨f1,f2⟩ (fun T0 z=>by simp at z; subst z; exact ⟨r3,r4⟩) k2' t6 t7 t8 t9
   refine k h' [T] ⟨f1,f2,oe',vs',a0,t1,t2,t4,t3,.inr ⟨T',oT',ts',t5,t7,nT.1,nT.2,t8,t9,t10⟩⟩ (mU I k1 k4) fun b hb=>?_
   rcases hb with rfl | hb
   · exact ⟨f1,f2,oe,vs,q1,q3⟩
   · simp at hb
     subst hb
     exact ⟨r3,r4,oT,ts,r5,r6⟩
end
def CXE (P:Program) (w:x_):CXT:=fun outer H s E ev s'=>∃ e cls H',ev=.ref e∧s'.os=s.os∧Lm s'.gens∧Un (frs outer) [] H H' s.heap s'.heap∧HOk P w H' s'.heap∧Fly (fun a=>s.heap.get? a=none) H' e cls s'.heap∧E cls none H'
def spE (K:ck) (F:List Dv→Option (Rs Dv)) (n:Nat):Sp:=fun vs H Q E=>∃ ds,Reps K H ds vs∧ds.length=n∧match F ds with
 | some (.ok d)=>∀ v H',Same H H'→Rep K H' d v→Q v H'
 | some (.exc c)=>∀ C H',HW K w_ (xnm c)=some (some (.ref C))→Same H H'→E (.ref C) none H'
 | none=>False
def EX (X:Cx):XK:=fun cv _ H1=>∃ c C,cv=.ref C∧HW X.K w_ (xnm c)=some (some (.ref C))∧XW X c H1
theorem DO {X:Cx} (hex:X.ex=[]):mI (CXE X.prog X.w) X (EX X):=by
 intro pins σ H s ev s' I ⟨e,cls,H',he,os,bare,un,hok,F,c,C,hcv,hC,hx⟩
 have I':Inv X pins σ H' s':=I.call' (ch:=[]) os un hok bare fun b z=>absurd z (by simp)
 refine hx pins σ H' s' ev (fun _ _ z=>z) I' ⟨e,C,he,hC,hcv ▸ F.imp fun a ha=>⟨?_,fun p hp z=>?_⟩⟩
 · cases q:X.s₀.heap.get? a with
   | none=>rfl
   | some o =>
    obtain ⟨o',z⟩:=I.base.there a o q (by rw [hex]; simp)
    rw [ha] at z
    cases z
 · have:=(I.pin p (Gp _ hp)).1
   rw [z,ha] at this
   cases this
def bH (F:List Dv→Option (Rs Dv)) (n:Nat) (g:FnA):FnE:=fun ρ=>bnd (g ρ) fun ds=>if ds.length=n then F ds else none
def Cu (P:Program) (w:x_) (K:ck) (mg:Str→Option Value) (base:Heap) (x:Str) (k:Nat) (ps:List Str) (F:List Dv→Option (Rs Dv)):Prop :=
 ∃ f fd,FnOk P w K mg base (CXE P w) k f fd ps (spE K F ps.length)∧mg x=some (.ref f)∧Hv K (.ref f)=true∧Binds K fd ps []
section
variable {X:Cx} {k n:Nat} {ps:List Str} {x:Str} {p pos:Pos} {e:Expr} {es:List Expr} {F:List Dv→Option (Rs Dv)} {g:FnA}
theorem tJ {k':Nat} (k:Nat) (ps:List Str) (F:List Dv→Option (Rs Dv)) (h:Cu X.prog X.w X.K X.mg X.base x k ps F) (hr:Room k' X.A) (hk:k≤k') (hex:X.ex=[]) (hg:Gl X x) (ha:FA X (e :: es) g) (hn:n=ps.length:=by kernel_rfl) (hdb:(x == ("__debug__":Str))=false:=by kernel_rfl)
 (he:e_ (e :: es) X.env=(false,eval e X.env) :: e_ es X.env:=by kernel_rfl) (hpl:(GA pos (e_ es X.env)).any (·.1)=false:=by kernel_rfl) :
 FE X (.Call (.Name x p) (e :: es) [] pos) (bH F n g):=by
 subst hn
 obtain ⟨f,fd,G,hm,hkp,hb⟩:=h
 refine bO (lz (G.mono hk) hr hg hm hkp hb .nil (DO hex) ha.h hdb he hpl) fun σ H Q ρ E o=>⟨ρ,E,OutA.bind o fun ds vs H' e rs o1=>?_⟩
 show spE X.K F ps.length (vs ++ []) H' Q (EX X)
 rw [Jh]
 by_cases hl:ds.length=ps.length
 · rw [if_pos hl] at o1
   refine ⟨ds,rs,hl,?_⟩
   match hF:F ds with
   | none=>rw [hF] at o1; exact o1.elim
   | some (.ok d)=>rw [hF] at o1; exact o1
   | some (.exc c)=>rw [hF] at o1; exact fun C H1 hC e1=>⟨c,C,rfl,hC,XW.mono o1 e1⟩
 · rw [if_neg hl] at o1
   exact o1.elim
end
def mV (m:Nat) (fb:FnS):List Dv→Option (Rs Dv):=fun ds=>match fb (ds.map some ++ rl (m - ds.length) none) with
 | some (.nx _)=>some (.ok .non)
 | some (.rt d)=>some (.ok d)
 | some (.exc c)=>some (.exc c)
 | none=>none
theorem DP {P:Program} {w:x_} {K:ck} {mg:Str→Option Value} {base:Heap} {N:List Str} {qual:Str} {scope:Scope} {f:Addr} {cd:Value} {A:u_} {outer:List Env} {s:c_} {H:Hp} {E:XK} {c:Nat}
 (q:∀ C H',HW K w_ (xnm c)=some (some (.ref C))→Same H H'→E (.ref C) none H'):XW (mJ (CXE P w) P w K mg base N qual scope f cd A outer s H E) c H:=by
 intro pins σ H' s1 ev e1 I ⟨e,C,he,hC,F⟩
 subst he
 have F':Fly (fun a=>s.heap.get? a=none) H' e (.ref C) s1.heap:=F.imp fun a ha=>ha.1
 refine qc I rfl rfl rfl F' fun h' Ts F2 A2 hf=>?_
 have I2:=Inv.aft (pins:=[]) (I.pins_of (pins':=[]) fun p hp=>nomatch hp) A2 rfl fun b hb=>⟨(hf b hb).1,(hf b hb).2.1,fun p hp=>absurd (show p∈([]:List (Addr×Obj)) from hp) (by simp),(hf b hb).2.2⟩
 exact ⟨e,.ref C,H',rfl,I.os,I.bare,I2.base,I2.hok,F2,q C H' hC e1⟩
theorem Aj {k:Nat} {f:Addr} {fd:Ha} {x:Str} {P:Program} {w:x_} {K:ck} {mg:Str→Option Value} {base:Heap} {qual:Str} {st:Stmt} {F:List Dv→Option (Rs Dv)} {n:Nat} (N ps:List Str) (fb:FnS) (hF:F=mV N.length fb) (hn:n=ps.length)
 (Fn:Fun K x qual st f fd) (S:da N ps (aq st))
 (hb:∀ (cdv:Value) (A:u_) (outer:List Env) (s:c_) (H:Hp) (E:XK),Room k (A.deeper (Kc qual (aq st) s.heap.objs.size f cdv))→FSs (mJ (CXE P w) P w K mg base N qual (aq st) f cdv A outer s H E) (bG st) fb) :
 FnOk P w K mg base (CXE P w) (k + 1) f fd ps (spE K F n):=by
 subst hF hn
 obtain ⟨oc,od,kV,doc,pm,an,cdv,ct,osl,rfl,lk,hcd⟩:=Fn.ex
 refine zn lk hcd S (fun vs H Q E h=>?_) fun A outer s H vs Q E hr h=>?_
 · obtain ⟨ds,r,hl,_⟩:=h
   rw [r.length,hl]
 · obtain ⟨ds,r,hl,q⟩:=h
   refine ⟨_,(hb cdv A outer s H E hr).h,ds.map some ++ rl (N.length - ds.length) none,fw r,?_⟩
   unfold mV at q
   match hf:fb (ds.map some ++ rl (N.length - ds.length) none) with
   | none=>rw [hf] at q; exact q.elim
   | some (.exc c)=>rw [hf] at q; exact DP q
   | some (.rt d)=>rw [hf] at q; exact fun v H' e r'=>q v H' e r'
   | some (.nx ρ)=>rw [hf] at q; exact fun σ' H' e _=>q .non H' e rfl
theorem jp {P:Program} {w:x_} {H:Hp} {h:Heap} (ok:HOk P w H h) {a:Addr} {u:HO} (q:H a=some u):∃ o,h.get? a=some o:=by
 have hk:=ok a u q
 clear q
 induction u with
 | lst xs=>obtain ⟨_,_,_,_,z⟩:=hk; exact ⟨_,z⟩
 | tup xs=>obtain ⟨_,_,_,o,z,_⟩:=hk; exact ⟨_,z⟩
 | dK kvs=>obtain ⟨_,_,_,_,o,_,_,z,_⟩:=hk; exact ⟨_,z⟩
 | dT kvs=>obtain ⟨_,_,_,_,o,_,_,z,_⟩:=hk; exact ⟨_,z⟩
 | set S n=>obtain ⟨o,_,_,_,z,_⟩:=hk; exact ⟨_,z⟩
 | ins C dx fs=>obtain ⟨_,_,_,z,_⟩:=hk; exact ⟨_,z⟩
 | own y=>obtain ⟨_,z⟩:=hk; exact ⟨_,z⟩
 | xd fs=>obtain ⟨_,⟨_,_,_,z,_⟩,_⟩:=hk; exact ⟨_,z⟩
 | rng lo hi=>obtain ⟨_,_,_,z⟩:=hk; exact ⟨_,z⟩
 | frz ob u ih=>obtain ⟨z,_⟩:=hk; exact ⟨_,z⟩
 | tbl ps=>exact ⟨_,(show h.get? a=some _ from hk)⟩
 | met f y=>exact ⟨_,(show h.get? a=some _ from hk)⟩
 | ext φ=>obtain ⟨_,⟨_,z⟩,_⟩:=hk; exact ⟨_,z⟩
theorem qd {P:Program} {w:x_} {H:Hp} {h:Heap} (ok:HOk P w H h) {a:Addr} (n:h.get? a=none):H a=none:=by
 cases q:H a with
 | none=>rfl
 | some u =>
  obtain ⟨o,z⟩:=jp ok q
  rw [n] at z
  cases z
theorem qe {K:ck} {h:Heap} {mg:Str→Option Value} {x:Str} {C:Addr} {bmB:List Value} {newId:String} (X:K.In h) (hb:mg x=some (.ref C)) (q:Ny K C bmB newId=true):OwnCls x C bmB newId mg h:=by
 constructor
 · exact hb
 unfold Ny at q
 split at q
 · rename_i dd cd sl look
   split at q
   · rename_i C2 rest s0 s1 s2 s3 nid s5 em es
     simp only [g_,beq_iff_eq,Ju] at q
     have e1:=q.1.1.1.1.1
     have e2:=q.1.1.1.1.2
     have e3:=q.1.1.1.2
     have e4:=q.1.1.2
     have e5:=q.1.2
     have e6:=q.2
     clear q
     subst e1 e2
     obtain ⟨f1,f2,f3,f4,f5,f6,f7,f8,f9,f10,f11⟩:=cd
     dsimp only at em e3 e5 e6
     subst em e3
     obtain ⟨l⟩:=sl
     have e7:l=[s0,s1,s2,s3,some (.builtin nid),s5]:=es
     subst e7
     refine ⟨rest,f4,f1,f5,f2,f6,f7,f8,f9,f10,dd,s0,s1,s2,s3,s5,_,X _ _ look,.of_isNs (PySem.W.isNs_of_in X e5),?_,PySem.W.tail_of_in X e4⟩
     exact PySem.W.nsMap_none_of_in X e5 e6
   · cases q
 · cases q
abbrev bmV:List Value:=[.type "ValueError",.type "Exception",.type "BaseException",.type "object"]
structure XC (K:ck) (c:Nat) (C:Addr):Prop where
 nm:HW K w_ (xnm c)=some (some (.ref C))
 ex:Ny K C bmV "ValueError.__new__"=true
def iC (c:Nat) (f:FnE):FnS:=fun ρ=>c9 (f ρ) fun _=>some (.exc c)
section
variable {X:Cx} {a:Expr} {fa:FnE} {np cpos pos:Pos} {x:Str} {C:Addr}
theorem tK (c:Nat) (K:XC X.K c C) (hx:xnm c=x) (hm:X.mg x=some (.ref C)) (hex:X.ex=[]) (hc:X.calm=true) (hg:Gl X x) (ha:FE X a fa)
 (he:e_ [a] X.env=(false,eval a X.env) :: e_ [] X.env:=by kernel_rfl) (hdb:(x == ("__debug__":Str))=false:=by kernel_rfl) :
 FS X (.Raise (some (.Call (.Name x np) [a] [] cpos)) none pos) (iC c fa):=by
 subst hx
 constructor
 intro pins s σ H D I ⟨ρ,E,o⟩
 obtain ⟨tl,N,nm,q,bs,hdct,sn,sub,ab,col,dd,k0,k1,k2,k3,k5,mN,hC,hN,hni,T⟩:=(qe I.ok.mod.kin hm K.ex).obj
 refine wpAny_Raise_call_subT (C:=C) (nm:=nm) (q:=q) (N:=N) (bs:=bs) (bm:=tl) (hdct:=hdct) (sn:=sn) (sub:=sub) (ab:=ab) (col:=col) (dd:=dd) (k0:=k0) (k1:=k1) (k2:=k2) (k3:=k3) (k5:=k5) Jz (mN:=mN)
  (T.hasType Jz.hasBase) (I.ok.hd hc) (by rw [he]; rfl) hni (fm I hg hm ⟨rfl,?_⟩ hdb)
 have hp:=(lD ha pQ he).h cpos pins s σ H (fun vs H1=>vs.length=1∧XW X c H1) I ⟨ρ,E,?_⟩
 · rw [he] at hp ⊢
   refine K9 (thn hp fun us s2 ⟨vs,H1,I1,rv,hl,hw⟩=>⟨rfl,?_,I1.bk _ _ hC,hN.keeps I1.bk,T.keeps I1.bk,fun h' e me=>?_⟩)
   · rw [← rv.length,hl]; decide
   · have I2:Inv X pins σ H1 { s2 with heap:=h' }:=I1.kept (t':=s2.toks) me.keeps
     obtain ⟨t,t1,t2,t3⟩:=me.there
     refine hw pins σ H1 _ (.ref e) (fun _ _ z=>z) I2 ⟨e,C,rfl,K.nm,qd I1.hok me.new,⟨?_,fun p hp z=>?_⟩,_,_,.ref t,t1,rfl,rfl,rfl,.inl rfl⟩
     · cases z:X.s₀.heap.get? e with
       | none=>rfl
       | some o2 =>
        obtain ⟨o3,z3⟩:=I1.base.there e o2 z (by rw [hex]; simp)
        rw [me.new] at z3
        cases z3
     · have z2:=(I1.pin p (Gp _ hp)).1
       rw [z,me.new] at z2
       cases z2
 · show OutA X H (aa fa ae ρ) _
   unfold aa
   unfold iC at o
   match hf:fa ρ with
   | none=>rw [hf] at o; exact o.elim
   | some (.exc c2)=>rw [hf] at o; exact o
   | some (.ok d)=>rw [hf] at o; exact fun vs H1 e1 r=>⟨r.length,XW.mono o e1⟩
end
end FD
namespace FD
open PySem PySem.Spec PyProof.Rows L2 PySem.W Builtin.Getset_descriptor
theorem qf:plainId "BaseException.__getattribute__"=true:=by decide +kernel
theorem mW:builtinKind "BaseException.__getattribute__"=some .slot:=by decide +kernel
theorem qg:splitId "BaseException.__getattribute__"=some ("BaseException","__getattribute__"):=by decide +kernel
theorem tL (self:Value):bindSpecial (.builtin "BaseException.__getattribute__") self=pure (.builtin "BaseException.__getattribute__",[self]):=by
 have h1:withoutEnding? "BaseException.__getattribute__" "#opaque"=none:=by decide +kernel
 have h2:withoutEnding? "BaseException.__getattribute__" "#data"=none:=by decide +kernel
 simp only [bindSpecial,Oe,builtinType,h1,h2,mW]; rfl
section
variable {prog:Program} {w:x_} {A:u_} {E:Value→c_→Prop} {s:c_} {K:ck} {x C:Addr} {ox:Obj}
structure XI (K:ck) (C:Addr):Prop where
 ga:findIn K (.ref C) "__getattribute__"=some (some (.builtin "BaseException.__getattribute__"))
 gt:findIn K (.ref C) "__getattr__"=some none
 cl:findIn K (.ref C) "__class__"=some (some (.builtin "object.__class__"))
 sp:specialIn K (.builtin "object.__class__") "__get__"=some (some (.builtin "getset_descriptor.__get__"))
 tk:takesIn K (.builtin "object.__class__")=some true
 ob:mroIn K C (.type "object")=some true
 be:mroIn K C (.type "BaseException")=some true
theorem Ak (hx:s.heap.get? x=some ox) (hc:ox.cls=.ref C) {M:Md}:Looks M s.heap (Oe (.ref x)) (.ref C):=hc ▸ (Looks.ld hx).andThen .now
theorem tM (X:K.In s.heap) (k:XI K C) {M:Md}:Looks M s.heap (Mj (.ref x) (.ref C) "__class__") (.bind (.builtin "getset_descriptor.__get__") (.builtin "object.__class__")):=by
 have L1:=N1 (M:=M) X k.cl
 have L2:=looks_specialIn (M:=M) X k.sp
 have L3:=looks_takesIn (M:=M) X k.tk
 intro A2 Q2 E2 s2 k2 q2
 unfold Mj
 refine b_ (L1 A2 _ E2 s2 k2 (b_ (L2 A2 _ E2 s2 k2 (b_ ?_))))
 unfold NN
 refine b_ (L3 A2 _ E2 s2 k2 ?_)
 rw [if_pos rfl]
 exact d_ (b_ (J0 (d_ q2)))
theorem Al {R:NK→c_→Prop} {tp:Value} (X:K.In s.heap) (hx:s.heap.get? x=some ox) (hc:ox.cls=.ref C) (hm:mroIn K C (.type "object")=some true)
 (h:R (.ok (.ret (.ref C))) s):Kq (pi prog w) A (.call (.builtin "getset_descriptor.__get__") ⟨[.builtin "object.__class__",.ref x,tp],[]⟩) R s:=by
 have L0:=Ak (M:=pi prog w) hx hc
 have L1:=looks_mroIn (M:=pi prog w) X hm
 obtain ⟨hh,g,dr,t,os⟩:=s
 refine K4 KF.slot_gs.plain KF.entry_gs (KF.slot_gs.check _ _ _ _ _ _ _ _ KF.type_class (KF.args_gs _ _ _) ?_)
 unfold K3.«getset_descriptor.__get__» descrGet
 rw [dga_obj]
 refine b_ (d_ ?_)
 unfold descrGetter descrCheckInstance descrNameAndClass isInstance
 simp only [KF.owner_class]
 repeat lk
 refine ⟨NL _ (by decide +kernel),Le KF.entry_class ?_⟩
 unfold K3.«object.__class__» shownTypeOf
 repeat lk
 exact h
theorem qh {Q:Option Value→c_→Prop} (X:K.In s.heap) (hx:s.heap.get? x=some ox) (hc:ox.cls=.ref C) (k:XI K C)
 (h:Q (some (.ref C)) { s with toks:=s.toks + 1 }):m_ (pi prog w) A (getAttr? (.ref x) "__class__") Q E s:=by
 have L0:=Ak (M:=pi prog w) hx hc
 have L2:=tM (M:=pi prog w) (x:=x) X k
 obtain ⟨hh,g,d,t,os⟩:=s
 have L1:=N1 (M:=pi prog w) X k.ga
 have L3:=N1 (M:=pi prog w) X k.gt
 have LB:=looks_mroIn (M:=pi prog w) X k.be
 unfold getAttr? getAttrBy? getAttrBy
 refine b_ (wpAny_mkText (b_ (IE (GV (b_ (L0.at (b_ (L1.at ?_))))))))
 have hne:(K2 "BaseException.__getattribute__" == K2 "object.__getattribute__")=false:=by decide +kernel
 dsimp only
 rw [hne,LJ,if_neg on]
 unfold getAttrByItsOwn
 refine b_ ?_
 show m_ _ _ (typeLookup (.ref C) "__getattr__") _ _ _
 refine L3.at ?_
 refine b_ (IE (GV ?_))
 unfold callGetattribute boundAndCalled
 rw [if_neg (by decide)]
 rw [tL]
 refine b_ (d_ ?_)
 refine Lu (K4 qf F.entry_bexc_ga ?_)
 simp only [checkBuiltinCall,mW,qg]
 have ha:=F.args_bexc_ga (.ref x) (.str "__class__" t)
 have LI:Looks (pi prog w) hh (isInstance (.ref x) (.type "BaseException")) true:=L0.andThen LB
 show m_ _ _ (isInstance (.ref x) (.type "BaseException") >>= _) _ _ _
 refine b_ (LI.at ?_)
 simp only [IJ,i_,if_false]
 have hz:hh.get? x=some ox∧True:=⟨hx,trivial⟩
 clear hx
 repeat (any_goals (first | assumption | wp_step))
 have hx':=hz.1
 refine LN hx' ?_
 refine d_ ?_
 rw [hc]
 refine b_ (L2.at ?_)
 dsimp only
 unfold OZ
 dsimp only
 refine b_ (GV (Lu (Al (s:=⟨hh,g,d,t + 1,os⟩) (ox:=ox) X hx' hc k.ob ?_)))
 refine d_ ?_
 show m_ _ _ (handedOut (.ref C)) _ _ _
 rw [handedOut_of rfl]
 exact d_ (d_ h)
theorem mX {K:ck} {C:Addr} {b:Value} {r:Bool} (h:mroIn K C b=some r):∃ cd,clsIn K C=some cd:=by
 unfold mroIn at h
 cases q:clsIn K C with
 | none=>rw [q] at h; cases h
 | some cd=>exact ⟨cd,rfl⟩
theorem tN {K:ck} {x C:Addr} {ox:Obj} (k:XI K C) (hc:ox.cls=.ref C):KitX K (.ref x) (.ref C) (fun h=>h.get? x=some ox) where
 ty:=fun M h _ q=>hc ▸ (Looks.ld q).andThen .now
 it:=fun _ _ X _=>by
  obtain ⟨cd,hc⟩:=mX k.ob
  unfold clsIn at hc
  split at hc
  · rename_i look
    intro A2 Q2 E2 s2 k2 q2
    unfold isType loadHead
    exact b_ (wpAny_loadPart (k2 _ _ (X _ _ look)) (d_ q2))
  · cases hc
 ne:=fun h tp dd its n sl X htp=>by
  obtain ⟨cd,hc⟩:=mX k.ob
  cases z:(q_ C == q_ tp) with
  | false=>rfl
  | true =>
   have e:=Value.ref.inj (beq_iff_eq.mp z)
   subst e
   unfold clsIn at hc
   split at hc
   · rename_i look
     cases (X _ _ look).symm.trans htp
   · cases hc
 ca:=fun X q z=>qh X q hc k z
end
def isX (tb:Nat→Option Bool):Dv→Option (Rs Dv)
 | .exn c=>match tb c with
  | some b=>some (.ok (.bl b))
  | none=>none
 | _=>none
def XT (K:ck) (tb:Nat→Option Bool) (T:Value):Prop:=∀ c b,tb c=some b→∀ C,nsIn K w_ (xnm c)=some (some (.ref C))→XI K C∧kitOne K (.ref C) T=some b
section
variable {X:Cx} {p pos pT:Pos} {a:Expr} {fa:FnE} {T:Str}
theorem mY {tv:V} {tval:Value} (rt:∀ u,RelV tv u→u=tval) {tb:Nat→Option Bool} (k:XT X.K tb tval):CallR X (.builtin "isinstance") (fun xs H Q=>∃ v c b,xs=[v,tv]∧Rep X.K H (.exn c) v∧tb c=some b∧Q (.bl b) H):=by
 intro pins s σ H xs us Q I r h
 obtain ⟨v,c,b,rfl,rv,hb,q⟩:=h
 obtain ⟨a,o,u,C,rfl,hH,hc,hn⟩:=rv.exnE
 obtain ⟨u1,u2,rfl,r1,r2⟩:=zk r
 cases (show u1=q_ a from r1)
 cases (rt u2 r2)
 obtain ⟨xi,kk⟩:=k c b hb C hn
 have hg:s.heap.get? a=some o:=(I.hok a _ hH).1
 exact kia_one (tN xi hc) I.kIn hg kk (by intro z; cases z) fun tk=>⟨.bl b,H,I.tok tk,rfl,q⟩
theorem Am {tb:Nat→Option Bool} {CT:Addr} (k:XT X.K tb (.ref CT)) (hT:X.mg T=some (.ref CT)) (hgT:Gl X T) (hdT:(T == ("__debug__":Str))=false) (hg:Gl X "isinstance") (hm:X.mg "isinstance"=none) (ha:FE X a fa)
 (hs1:e_ [a,.Name T pT] X.env=(false,eval a X.env) :: e_ [.Name T pT] X.env:=by kernel_rfl) (hs2:e_ [.Name T pT] X.env=(false,eval (.Name T pT) X.env) :: e_ [] X.env:=by kernel_rfl)
 (hpl:(GA pos (e_ [.Name T pT] X.env)).any (·.1)=false:=by kernel_rfl) :
 FE X (.Call (.Name "isinstance" p) [a,.Name T pT] [] pos) (f1 (isX tb) fa) :=
 bO (dC (mY (tv:=.ref CT) (fun u z=>z) k) hg hm Jg (cU ha.h (cU (lr (v:=.ref CT) hgT hT rfl hdT) jP hs2) hs1) (by decide) (by decide) hs1 hpl) fun σ H Q ρ E o=>⟨ρ,E,Out.bind o fun d v H1 e1 r o1=>by
  show ∃ v2 c b,[v,V.ref CT]=[v2,V.ref CT]∧_
  cases d with
  | exn c =>
   have o2:Out X H1 (match tb c with | some b=>some (.ok (.bl b)) | none=>none) Q:=o1
   cases q:tb c with
   | none=>rw [q] at o2; exact o2.elim
   | some b=>rw [q] at o2; exact ⟨v,c,b,rfl,r,q,o2 _ H1 (.refl H1) rfl⟩
  | _=>exact o1.elim⟩
theorem An {T:String} {tb:Nat→Option Bool} (k:XT X.K tb (.type T)) (hT:Hk (a_ T)=some (.type T)) (hn:a_ T≠"__name__") (hdT:(a_ T == ("__debug__":Str))=false)
 (hg:Gl X "isinstance") (hm:X.mg "isinstance"=none) (hgT:Gl X (a_ T)) (hmT:X.mg (a_ T)=none) (ha:FE X a fa)
 (hs1:e_ [a,.Name (a_ T) pT] X.env=(false,eval a X.env) :: e_ [.Name (a_ T) pT] X.env:=by kernel_rfl) (hs2:e_ [.Name (a_ T) pT] X.env=(false,eval (.Name (a_ T) pT) X.env) :: e_ [] X.env:=by kernel_rfl)
 (hpl:(GA pos (e_ [.Name (a_ T) pT] X.env)).any (·.1)=false:=by kernel_rfl) :
 FE X (.Call (.Name "isinstance" p) [a,.Name (a_ T) pT] [] pos) (f1 (isX tb) fa) :=
 bO (dC (mY (tv:=.ty T) (fun u z=>z) k) hg hm Jg (cU ha.h (cU (pp (v:=.ty T) hgT hmT hT rfl hn hdT) jP hs2) hs1) (by decide) (by decide) hs1 hpl) fun σ H Q ρ E o=>⟨ρ,E,Out.bind o fun d v H1 e1 r o1=>by
  show ∃ v2 c b,[v,V.ty T]=[v2,V.ty T]∧_
  cases d with
  | exn c =>
   have o2:Out X H1 (match tb c with | some b=>some (.ok (.bl b)) | none=>none) Q:=o1
   cases q:tb c with
   | none=>rw [q] at o2; exact o2.elim
   | some b=>rw [q] at o2; exact ⟨v,c,b,rfl,r,q,o2 _ H1 (.refl H1) rfl⟩
  | _=>exact o1.elim⟩
end
end FD
namespace FD
open PySem PySem.Spec PyProof.Rows L2 PySem.W
section
variable {X:Cx} {pins:List (Addr×Obj)} {σ:L2.St} {H:Hp} {s:c_}
theorem qi {M:Md} {A:u_} {E:Value→c_→Prop} {i:Nat} {x:Str} {v:V} {pos:Pos} {Q:Unit→c_→Prop} (I:Inv X pins σ H s) (hN:X.N.Nodup) (hi:X.N[i]?=some x) (hk:X.env.scope.names.lookup x=some .local) (hv:σ[i]?=some (some v))
 (h:∀ s',Inv X pins (σ.set i none) H s'→Q () s'):m_ M A (unbindBehindTheSuite X.env x pos) Q E s:=by
 obtain ⟨m,hn,hl⟩:=id I.loc
 have hkd:X.env.kindOf x=some .local:=hk
 obtain ⟨u,ru,lk⟩:=hl i x v hi hv (.inl hk)
 have hm:m x=some u:=by
  rcases lk with ⟨_,z⟩ | ⟨z,_⟩
  · exact z
  · rw [hkd] at z
    rcases z with z | z <;> cases z
 have hcls:(X.env.scope.kind == .class || (X.env.scope.kind == .module && X.env.locals != X.env.globals))=false:=by rw [I.ok.kind]; rfl
 have cne:=I.cne
 obtain ⟨oL,_,_,hoL,_⟩:=id hn
 refine wpAny_onRaise (wpAny_unbindName_local hkd hn hm hcls fun h' w hn' hs=>?_)
 refine h _ ⟨I.ok,I.os,I.bare,⟨fun b o e n hb hx=>?_,fun b o e n hb hx=>?_,I.base.free,fun b o e hx=>?_,I.base.tups,I.base.frzs,I.base.tbls⟩,⟨_,hn',fun j y v' e1 e2 e3=>?_⟩,fun y c e=>?_,I.free,I.freeC,fun p hp=>?_,fun b ob e=>?_,by simpa using I.len⟩
 · exact (hs.2 b (z_ (A_ (o_ e) I.ok.above))).trans (I.base.keep b o e n hb hx)
 · obtain ⟨sl,e1⟩:=I.base.slot b o e n hb hx
   exact ⟨sl,(hs.2 b (z_ (A_ (o_ e) I.ok.above))).trans e1⟩
 · obtain ⟨o',e1⟩:=I.base.there b o e hx
   exact ⟨o',(hs.2 b (z_ (A_ (o_ e) I.ok.above))).trans e1⟩
 · by_cases hj:j=i
   · subst hj
     have hjl:j < σ.length:=by rw [I.len]; exact (xy.mp hi).1
     rw [B_ hjl] at e2
     cases e2
   · rw [uk (Im hj)] at e2
     obtain ⟨u',r',q⟩:=hl j y v' e1 e2 e3
     refine ⟨u',r',?_⟩
     rcases q with ⟨k,e⟩ | ⟨k,c,e,z⟩
     · refine .inl ⟨k,?_⟩
       have:y≠x:=fun e=>hj (jc hN e1 (e ▸ hi))
       simp [this,e]
     · exact .inr ⟨k,c,e,z.sameBut hs (cne y c e)⟩
 · obtain ⟨w',z⟩:=I.cell y c e
   exact ⟨w',z.sameBut hs (cne y c e)⟩
 · obtain ⟨e,n,ne,nf,d⟩:=I.pin p hp
   exact ⟨(hs.2 p.1 ne).trans e,n,ne,nf,d⟩
 · refine (I.hok b ob e).stay (fun c w' hc q=>(hs.2 c ?_).trans q) (fun _ q=>q) fun _ _ q=>q
   rintro rfl
   rcases hc with hc | hc
   · rw [← hc,I.free] at e; cases e
   · rw [I.free] at hc; cases hc
theorem Inv.freeze {e:Addr} {oe:Obj} {vs:Array Value} (I:Inv X pins σ H s) (he:H e=none) (hg:s.heap.get? e=some oe) (hd:oe.data=.fields vs) (h0:X.s₀.heap.get? e=none) (hp:∀ p∈X.pn ++ pins,p.1≠e) :
 Inv X pins σ (upd H e (.frz oe (.ext fun _=>True))) s:=by
 have ne:∀ b u,H b=some u→b≠e:=fun b u q=>ar q he
 refine ⟨I.ok,I.os,I.bare,⟨I.base.keep,I.base.slot,fun b o q n hx=>?_,I.base.there,fun b xs q=>?_,fun b o u q=>?_,fun b ps q=>?_⟩,I.loc,I.cell,?_,fun x c q=>?_,fun p hp'=>?_,fun b u q=>?_,I.len⟩
 · have hb:b≠e:=fun z=>by rw [z,h0] at q; cases q
   rw [ao hb]
   exact I.base.free b o q n hx
 · have q':=I.base.tups b xs q
   rw [ao (ne b _ q')]
   exact q'
 · have q':=I.base.frzs b o u q
   rw [ao (ne b _ q')]
   exact q'
 · obtain ⟨more,q'⟩:=I.base.tbls b ps q
   exact ⟨more,by rw [ao (ne b _ q')]; exact q'⟩
 · obtain ⟨m,⟨o,es,ep,ho,hdd,_⟩,_⟩:=I.loc
   have hb:X.env.locals≠e:=fun z=>by rw [z,hg] at ho; cases ho; rw [hd] at hdd; cases hdd
   rw [ao hb]
   exact I.free
 · obtain ⟨v,o,ho,hdd⟩:=I.cell x c q
   have hb:c≠e:=fun z=>by rw [z,hg] at ho; cases ho; rw [hd] at hdd; cases hdd
   rw [ao hb]
   exact I.freeC x c q
 · obtain ⟨q1,q2,q3⟩:=I.pin p hp'
   exact ⟨q1,by rw [ao (hp p hp')]; exact q2,q3⟩
 · by_cases hb:b=e
   · subst hb
     rw [am] at q
     cases q
     exact ⟨hg,trivial,⟨oe,hg⟩,fun _ _ _ _=>trivial⟩
   · rw [ao hb] at q
     exact (I.hok b u q).stay (fun _ _ _ z=>z) (fun c z=>by rw [ao (ne c _ z)]; exact z) fun c xs z=>by rw [ao (ne c _ z)]; exact z
end
structure RoomM (k:Nat) (A:u_):Prop where
 dp:A.depth + 3 * k + 5 < recursionLimit
 un:A.units + 16 * k + 200 < cLine
theorem RoomM.of {k:Nat} {A:u_} (r:Room k A):RoomM k A:=⟨r.dp,r.un⟩
theorem RoomM.mono {j k:Nat} {A:u_} (r:RoomM k A) (h:j≤k):RoomM j A:=⟨by have:=r.dp; omega,by have:=r.un; omega⟩
theorem RoomM.deeper {k:Nat} {A:u_} (r:RoomM (k + 1) A) (env:Env):RoomM k (A.deeper env) :=
 ⟨by have:=r.dp; show A.depth + 1 + 3 * k + 5 < _; omega,by have:=r.un; show A.units + 3 + 16 * k + 200 < _; omega⟩
theorem RoomM.units {k:Nat} {A:u_} (r:RoomM k A):A.units + 64 < cLine:=by have:=r.un; omega
structure FnM (P:Program) (w:x_) (K:ck) (mg:Str→Option Value) (base:Heap) (k:Nat) (f:Addr) (fd:Ha) (ps:List Str) (F:List Dv→Option (Rs Dv)):Prop where
 run:∀ (A:u_) (outer:List Env) (s:c_) (H:Hp) (args:Args) (us:List Value) (vs:List V) (ds:List Dv) (d:Dv) (Q:VK),RoomM k A→Env0 P w K mg base A outer s H→LS s fd args (ps.zip us)→Vals vs us →
  Reps K H ds vs→ds.length=ps.length→F ds=some (.ok d)→(∀ v H',Same H H'→Rep K H' d v→Q v H')→Kq (pi P w) A (.call (.ref f) args) (CR CX0 outer P w H s Q E0) s
def Cv (P:Program) (w:x_) (K:ck) (mg:Str→Option Value) (base:Heap) (x:Str) (k:Nat) (ps:List Str) (F:List Dv→Option (Rs Dv)):Prop :=
 ∃ f fd,FnM P w K mg base k f fd ps F∧mg x=some (.ref f)∧Hv K (.ref f)=true∧Binds K fd ps []
section
variable {X:Cx} {x:Str} {p pos:Pos} {e:Expr} {es:List Expr} {g:FnA} {n:Nat}
theorem tQ {k':Nat} (k:Nat) (ps:List Str) (F:List Dv→Option (Rs Dv)) (h:Cv X.prog X.w X.K X.mg X.base x k ps F) (hr:RoomM k' X.A) (hk:k≤k') (hg:Gl X x) (ha:FA X (e :: es) g) (hn:n=ps.length:=by kernel_rfl) (hdb:(x == ("__debug__":Str))=false:=by kernel_rfl)
 (he:e_ (e :: es) X.env=(false,eval e X.env) :: e_ es X.env:=by kernel_rfl) (hpl:(GA pos (e_ es X.env)).any (·.1)=false:=by kernel_rfl) :
 FE X (.Call (.Name x p) (e :: es) [] pos) (ah F n g):=by
 subst hn
 obtain ⟨f,fd,G,hm,hkp,hb⟩:=h
 constructor
 intro pins s σ H Q I ⟨ρ,E,o⟩
 have hp:m_ (pi X.prog X.w) X.A (spliced (GA pos (e_ (e :: es) X.env))) (AP X pins σ fun vs H1=>∃ ds,Reps X.K H1 ds vs∧ds.length=ps.length∧∃ d,F ds=some (.ok d)∧∀ v H',Same H1 H'→Rep X.K H' d v→Q v H') X.xe s:=by
  refine ha.h pos pins s σ H _ I ⟨ρ,E,OutA.bind o fun ds vs H' e rs o1=>?_⟩
  by_cases hl:ds.length=ps.length
  · rw [if_pos hl] at o1
    refine ⟨ds,rs,hl,?_⟩
    match hF:F ds with
    | none=>rw [hF] at o1; exact o1.elim
    | some (.exc c)=>rw [hF] at o1; exact o1.elim
    | some (.ok d)=>rw [hF] at o1; exact ⟨d,rfl,o1⟩
  · rw [if_neg hl] at o1
    exact o1.elim
 refine HS (fm I hg hm ?_ hdb)
 refine NH (h₀:=X.base) I.ok.mod.kin hkp (thn hp fun us s1 ⟨vs,H1,I1,r,ds,rs,hl,d,hF,q⟩=>⟨I1.kIn,?_⟩) he hpl
 have hlen:us.length=ps.length:=by rw [← r.length,rs.length,hl]
 have hb':LS s1 fd ⟨us,[]⟩ (ps.zip us):=by
  have z:=hb s1 us I1.kIn (by rw [Jh]; exact hlen)
  rw [Jh] at z
  exact z
 refine Lu (JE (G.run X.A X.stack s1 H1 ⟨us,[]⟩ us vs ds d Q (hr.mono hk) I1.env0 hb' r rs hl hF q) fun r s' hq=>?_)
 cases r with
 | error e=>exact hq.elim
 | ok fl =>
  cases fl with
  | ret u=>exact I1.after hq
  | next=>exact Gz hq
  | brk=>exact Gz hq
  | cont=>exact Gz hq
end
def cxM (P:Program) (w:x_) (K:ck) (mg:Str→Option Value) (base:Heap) (N:List Str) (qual:Str) (scope:Scope) (f:Addr) (cd:Value) (A:u_) (outer:List Env) (s:c_) (H:Hp):Cx :=
 { mJ CX0 P w K mg base N qual scope f cd A outer s H E0 with calm:=false,xe:=fun _ _=>False }
theorem Ao {k:Nat} {f:Addr} {fd:Ha} {x:Str} {P:Program} {w:x_} {K:ck} {mg:Str→Option Value} {base:Heap} {qual:Str} {st:Stmt} {F:List Dv→Option (Rs Dv)} (N ps:List Str) (fb:FnS) (hF:F=bV N.length fb)
 (Fn:Fun K x qual st f fd) (S:da N ps (aq st))
 (hb:∀ (cdv:Value) (A:u_) (outer:List Env) (s:c_) (H:Hp),RoomM k (A.deeper (Kc qual (aq st) s.heap.objs.size f cdv))→FSs (cxM P w K mg base N qual (aq st) f cdv A outer s H) (bG st) fb) :
 FnM P w K mg base (k + 1) f fd ps F:=by
 subst hF
 obtain ⟨oc,od,kV,doc,pm,an,cdv,ct,osl,rfl,lk,hcd⟩:=Fn.ex
 refine ⟨fun A outer s H args us vs ds d Q hr e0 hbd r rs hl hF q=>?_⟩
 have hlv:vs.length=ps.length:=by rw [rs.length,hl]
 have KX:K.In s.heap:=e0.mod.kin.keeps fun b o e=>(e0.bs b o e).1
 have lim:s.heap.NoLimit:=e0.mod.nolimit.keeps fun b o e=>(e0.bs b o e).1
 have hkind:∀ y∈ps.zip us,(aq st).names.lookup y.1=some .local∨((aq st).names.lookup y.1=some .cell∧((GO (s.heap.objs.size + 1) (aq st).names []).lookup y.1).isSome=true):=fun ⟨n,v⟩ hy=>by
  rcases S.par n (Lg hy).1 with z | z
  · exact .inl z
  · exact .inr ⟨z,Kt _ _ _ (.inl z)⟩
 have hdp:A.depth < recursionLimit:=by have:=hr.dp; omega
 refine MU hdp (KX _ _ lk) rfl S.co S.gen rfl (NG KX hcd) (hbd _ _ _ _ ?_)
 refine Lr S.kind hkind fun env he s1 x=>?_
 subst he
 refine ⟨lim.keeps x.toInCall.keep,codeAny_func ?_⟩
 have e1:Env0 P w K mg base { A with handled:=none } outer s H:=⟨e0.frames,e0.mod,e0.bs,e0.bsz,e0.funs,e0.frf,e0.hok,e0.bare⟩
 have I0:Inv (mJ CX0 P w K mg base N qual (aq st) f cdv { A with handled:=none } outer s H E0) [] (start N vs) H s1:=jU S rfl e1 hlv r x
 have I:Inv (cxM P w K mg base N qual (aq st) f cdv A outer s H) [] (start N vs) H s1 :=
  ⟨⟨I0.ok.mod,I0.ok.kind,I0.ok.glob,I0.ok.blt,I0.ok.above,I0.ok.inj,I0.ok.has,I0.ok.cab,(fun z=>absurd z on),Nb e0.frames,I0.ok.stk,I0.ok.exf,I0.ok.bs,I0.ok.bsz,I0.ok.noex,I0.ok.exfs,I0.ok.funs,I0.ok.frf⟩,
   I0.os,I0.bare,I0.base,I0.loc,I0.cell,I0.free,I0.freeC,I0.pin,I0.hok,I0.len⟩
 have fin:∀ {s':c_} {σ':L2.St} {H':Hp} {v:V} {u:Value},Inv (cxM P w K mg base N qual (aq st) f cdv A outer s H) [] σ' H' s'→RelV v u→Q v H'→CE outer P w H s Q u s':=fun {s' σ' H' v u} J rv q=>⟨v,H',J.os,J.bare,J.base,J.hok,rv,q⟩
 have hq:OutS (cxM P w K mg base N qual (aq st) f cdv A outer s H) H (fb (ds.map some ++ rl (N.length - ds.length) none)) { nx:=fun _ H'=>Q .non H',rt:=Q }:=by
  unfold bV at hF
  match hf:fb (ds.map some ++ rl (N.length - ds.length) none) with
  | none=>rw [hf] at hF; cases hF
  | some (.exc c)=>rw [hf] at hF; cases hF
  | some (.rt d')=>rw [hf] at hF; cases hF; exact q
  | some (.nx ρ)=>rw [hf] at hF; cases hF; exact fun σ' H' e _=>q .non H' e rfl
 refine GC ((hb cdv A outer s H (hr.deeper _)).h [] s1 (start N vs) H _ I ⟨_,fw rs,hq⟩) (fun fl s' hs=>?_) fun e s' hs=>hs.elim
 cases fl with
 | ret u =>
  obtain ⟨v,σ',H',J,rv,z⟩:=hs
  exact fin J rv z
 | next =>
  obtain ⟨σ',H',J,z⟩:=hs
  exact fin (v:=V.non) (u:=GH) J rfl z
 | brk =>
  obtain ⟨_,_,_,z⟩:=hs
  exact Gz z
 | cont =>
  obtain ⟨_,_,_,z⟩:=hs
  exact Gz z
abbrev yQ (X:Cx) (pl:List (Addr×Obj)) (E:Value→c_→Prop):Cx:={ X with pn:=X.pn ++ pl,xe:=E }
abbrev kh (X:Cx) (pl:List (Addr×Obj)) (e:Addr):Cx:={ X with A:=X.A.mark (some (.ref e)),calm:=false,pn:=X.pn ++ pl,xe:=fun _ _=>False }
section
variable {X:Cx} {pl ps:List (Addr×Obj)} {σ:L2.St} {H:Hp} {s:c_} {E:Value→c_→Prop} {e:Addr}
theorem xh (I:Inv X pl σ H s):Inv (yQ X pl E) [] σ H s :=
 ⟨⟨I.ok.mod,I.ok.kind,I.ok.glob,I.ok.blt,I.ok.above,I.ok.inj,I.ok.has,I.ok.cab,I.ok.hd,I.ok.frames,I.ok.stk,I.ok.exf,I.ok.bs,I.ok.bsz,I.ok.noex,I.ok.exfs,I.ok.funs,I.ok.frf⟩,
  I.os,I.bare,I.base,I.loc,I.cell,I.free,I.freeC,fun p hp=>I.pin p (by simpa using hp),I.hok,I.len⟩
theorem gH (I:Inv (yQ X pl E) ps σ H s):Inv X pl σ H s :=
 ⟨⟨I.ok.mod,I.ok.kind,I.ok.glob,I.ok.blt,I.ok.above,I.ok.inj,I.ok.has,I.ok.cab,I.ok.hd,I.ok.frames,I.ok.stk,I.ok.exf,I.ok.bs,I.ok.bsz,I.ok.noex,I.ok.exfs,I.ok.funs,I.ok.frf⟩,
  I.os,I.bare,I.base,I.loc,I.cell,I.free,I.freeC,fun p hp=>I.pin p (Gp _ hp),I.hok,I.len⟩
theorem mZ (I:Inv X pl σ H s):Inv (kh X pl e) [] σ H s :=
 ⟨⟨I.ok.mod,I.ok.kind,I.ok.glob,I.ok.blt,I.ok.above,I.ok.inj,I.ok.has,I.ok.cab,fun z=>absurd z on,I.ok.frames,I.ok.stk,I.ok.exf,I.ok.bs,I.ok.bsz,I.ok.noex,I.ok.exfs,I.ok.funs,I.ok.frf⟩,
  I.os,I.bare,I.base,I.loc,I.cell,I.free,I.freeC,fun p hp=>I.pin p (by simpa using hp),I.hok,I.len⟩
theorem oB (ok:X.Ok) (I:Inv (kh X pl e) ps σ H s):Inv X pl σ H s :=
 ⟨ok,I.os,I.bare,I.base,I.loc,I.cell,I.free,I.freeC,fun p hp=>I.pin p (Gp _ hp),I.hok,I.len⟩
theorem tU {Y:Cx} (I:Inv Y ps σ H s) (hex:Y.ex=[]) (hst:Y.stack=Y.env :: Y.outer) (hfm:Y.env.frame=some Y.env.locals) {cls:Value} (F:Fly (De Y) H e cls s.heap)
 {Q:Unit→c_→Prop} {E1 E2:Value→c_→Prop} (k:∀ h' Ts a0,(hid Y e Ts s.heap).StaysIn h'→h'.FunFrames (hid Y e Ts s.heap) Y.stack→h'.TracedW (hid Y e Ts s.heap) e cls a0 →
  (∀ b o,s.heap.get? b=some o→(∀ vs,o.data≠.fields vs)→∃ sl,h'.get? b=some { o with slots:=sl }) →
  (∀ b,b=e∨b∈Ts→H b=none∧De Y b∧∃ o vs,s.heap.get? b=some o∧o.data=.fields vs)→Q () { s with heap:=h' }) :
 m_ (pi Y.prog Y.w) Y.A (Of (.ref e) Y.env) (fun _ s2=>m_ (pi Y.prog Y.w) Y.A (setFlight (.ref e) none) Q E1 s2) E2 s:=by
 obtain ⟨f1,f2,oe,vs,a0,q1,q2,q3,q4,q5⟩:=F
 have hfr:Y.A.frames=some (Y.env :: Y.outer):=hst ▸ I.ok.frames
 subst q2
 rcases q5 with q5 | ⟨T,oT,ts,r1,r2,r3,r4,r5,r6,r7⟩
 · have b3:s.heap.FunFrames (hid Y e [] s.heap) (Y.env :: Y.outer):=hst ▸ jo I
   have go:∀ h',Heap.NotedW (hid Y e [] s.heap) (Y.env :: Y.outer) e oe.cls a0 (KU Y.env.locals) s.heap h'→m_ (pi Y.prog Y.w) Y.A (setFlight (.ref e) none) Q E1 { s with heap:=h' }:=fun h' ⟨k1,k2,k3,k4⟩ =>
    KO (s:={ s with heap:=h' }) k1 k2 k3 fun h2 m1 m2 m3 m4=>k h2 [] a0 m1 (hst ▸ m2) m3 (fun b o q d=>by
     obtain ⟨sl,q'⟩:=k4 b o q d
     exact ⟨sl,m4 b _ q' d⟩) fun b hb=>by
      rcases hb with rfl | hb
      · exact ⟨f1,f2,oe,vs,q1,q3⟩
      · cases hb
   unfold Of
   simp only [hfm]
   refine b_ (Hs q1 q3 q5 ?_)
   rw [if_neg (by decide)]
   exact wpAny_entryW hfr b3 hfm q1 (fun b o z=>IZ _ z) (HB _ (j_ ..)) q3 (GR.mp q5).1 q4 go
 · have b3:s.heap.FunFrames (hid Y e [T] s.heap) (Y.env :: Y.outer):=hst ▸ jo I
   have ht:s.heap.TracedW (hid Y e [T] s.heap) e oe.cls a0:=⟨oe,vs,T,oT,ts,q1,⟨rfl,q4⟩,q3,r1,HB _ (by simp),r2,r5,r6,r7⟩
   refine wpAny_noteFrame_onW hfr b3 hfm ht (fun b o z=>IZ _ z) (HB _ (j_ ..)) fun h' ⟨k1,k2,k3,k4⟩=>?_
   refine KO (s:={ s with heap:=h' }) k1 k2 k3 fun h2 m1 m2 m3 m4=>k h2 [T] a0 m1 (hst ▸ m2) m3 (fun b o q d=>by
    obtain ⟨sl,q'⟩:=k4 b o q d
    exact ⟨sl,m4 b _ q' d⟩) fun b hb=>by
     rcases hb with rfl | hb
     · exact ⟨f1,f2,oe,vs,q1,q3⟩
     · simp at hb
       subst hb
       exact ⟨r3,r4,oT,ts,r5,r6⟩
theorem qj {prog:Program} {w:x_} {A:u_} {E1:Value→c_→Prop} {K:ck} {mg mg2:Str→Option Value} {C J:Addr} {oe:Obj} {y z:Str} {Q:Bool→c_→Prop} (X:K.In s.heap) (hC:OwnCls y C bmV "ValueError.__new__" mg s.heap) (hJ:OwnCls z J bmV "ValueError.__new__" mg2 s.heap)
 (he:s.heap.get? e=some oe) (hc:oe.cls=.ref C) (hm:mroIn K C (.ref J)=some true) (h:Q true s):m_ (pi prog w) A (excMatches (.ref e) (.ref J)) Q E1 s:=by
 obtain ⟨tl,N,nm,q,bs,hdct,sn,sub,ab,col,dd,k0,k1,k2,k3,k5,mN,hC,hN,hni,T⟩:=hC.obj
 obtain ⟨tl',N',nm',q',bs',hdct',sn',sub',ab',col',dd',l0,l1,l2,l3,l5,mN',hJ,hN',hni',T'⟩:=hJ.obj
 obtain ⟨hh,g,d,t,os⟩:=s
 have hcB:(q_ J :: tl').contains (.type "BaseException")=true:=by rw [List.contains_cons,T'.hasType Jz.hasBase,Bool.or_true]
 have hcC:(q_ C :: tl).contains (.ref J)=true:=by
  unfold mroIn at hm
  obtain ⟨cd,a,b⟩:=Option.bind_eq_some_iff.mp hm
  split at b
  · cases b
  · have b':=GL b
    unfold clsIn at a
    split at a
    · rename_i look
      cases a
      have z:=(X _ _ look).symm.trans hC
      cases z
      exact b'
    · cases a
 have f:=tc_notTuple
 unfold excMatches
 repeat (first | (with_reducible refine LN he ?_; rw [hc]) | with_reducible refine LN hJ ?_ | (with_reducible refine wpAny_isSubtype_exc hJ ?_; rw [hcB]) | (with_reducible refine wpAny_isSubtype_exc hC ?_; rw [hcC]) | wp_step)
 exact h
end
def yR (m i N:Nat) (f g:FnE):FnS:=fun ρ=>match f ρ with
 | none=>none
 | some (.ok d)=>some (.rt d)
 | some (.exc c)=>if c < m then (match g ((rl N none).set i (some (.exn c))) with
  | some (.ok d)=>some (.rt d)
  | _=>none) else none
section
variable {X:Cx} {ex hx:Expr} {f g:FnE} {J n:Str} {CJ:Addr} {np rp rp2 hpos pos:Pos}
theorem Ap (m i N:Nat) (hex:X.ex=[]) (hst:X.stack=X.env :: X.outer) (hfm:X.env.frame=some X.env.locals) (hgJ:Gl X J) (hmJ:X.mg J=some (.ref CJ)) (KJ:excIn X.K CJ bmV "ValueError.__new__"=true)
 (xk:∀ c C,c < m→nsIn X.K w_ (xnm c)=some (some (.ref C))→excIn X.K C bmV "ValueError.__new__"=true∧mroIn X.K C (.ref CJ)=some true)
 (hN:X.N.Nodup) (hi:X.N[i]?=some n) (hl:X.env.scope.names.lookup n=some .local) (hNl:X.N.length=N)
 (hb:∀ pl E',FE (yQ X pl E') ex f) (hh:∀ pl e,FE (kh X pl e) hx g) (hdb:(J == ("__debug__":Str))=false:=by kernel_rfl) :
 FS X (.Try [.Return (some ex) rp] [.ExceptHandler (some (.Name J np)) (some n) [.Return (some hx) rp2] hpos] [] [] pos) (yR m i N f g):=by
 constructor
 intro pins s σ H D I ⟨ρ,E,o⟩
 refine wpAny_Try_except ?_
 have hbody:=fun E' (h:OutS (yQ X pins E') H (bh f ρ) { nx:=fun _ _=>False,rt:=D.rt })=>(lE (pR (pos:=rp) (hb pins E'))).h [] s σ H { nx:=fun _ _=>False,rt:=D.rt } (xh I) ⟨ρ,E,h⟩
 refine GC (hbody (fun e s₁=>m_ (pi X.prog X.w) X.A (Of e X.env) (fun _ s₂=>m_ (pi X.prog X.w) X.A (setFlight e none) (fun _ s₃=>m_ (pi X.prog X.w) X.A (handleBy e X.env [.ExceptHandler (some (.Name J np)) (some n) [.Return (some hx) rp2] hpos]) (SP X pins D) X.xe s₃) X.xe s₂) X.xe s₁) ?_) (fun fl s1 hs=>?_) fun e s1 hs=>hs
 · unfold yR at o
   unfold bh
   match hf:f ρ with
   | none=>rw [hf] at o; exact o.elim
   | some (.ok d)=>rw [hf] at o; exact o
   | some (.exc c) =>
    rw [hf] at o
    dsimp only at o
    by_cases hcm:c < m
    · rw [if_pos hcm] at o
      intro ps σ1 H1 s1 ev same I1 ⟨e,C,he,hC,F⟩
      subst he
      have fe:H1 e=none:=F.1
      have fn:=F.2.1
      refine tU (Y:=yQ X pins _) I1 hex hst hfm F (E1:=X.xe) (E2:=X.xe) fun h2 Ts a0 k1 k2 k3 k4 k5=>?_
      have I1':=I1.pins_of (pins':=[]) fun p hp=>absurd hp (by simp)
      have hf5:∀ b,b=e∨b∈Ts→H1 b=none∧X.s₀.heap.get? b=none∧(∀ p∈(X.pn ++ pins) ++ [],p.1≠b)∧∃ o vs,s1.heap.get? b=some o∧o.data=.fields vs:=fun b hb=>⟨(k5 b hb).1,(k5 b hb).2.1.1,fun p hp=>(k5 b hb).2.1.2 p (by simpa using hp),(k5 b hb).2.2⟩
      have I2:=Inv.aft I1' (mU I1 k1 k4) hex hf5
      have J2:Inv (kh X pins e) [] σ1 H1 { s1 with heap:=h2 }:=mZ (gH I2)
      have k3':=k3
      obtain ⟨oe,vs,T,oT,ts,t1,⟨t2,t3⟩,t4,_⟩:=k3'
      obtain ⟨xC,xm⟩:=xk c C hcm hC
      refine wpAny_handleBy_cons (codeAny_handlers_test (fm (X:=kh X pins e) J2 hgJ hmJ ?_ hdb)) (by intro z; cases z)
      refine qj (mg:=fun _=>some (.ref C)) (y:=n) J2.kIn (qe J2.kIn rfl xC) (qe J2.kIn hmJ KJ) t1 t2 xm ?_
      show Kq _ _ (.handlers (.ref e) [.ExceptHandler none (some n) [.Return (some hx) rp2] hpos] X.env) _ _
      refine codeAny_handlers_suite_as ?_
      refine KO (s:={ s1 with heap:=h2 }) k1 k2 k3.at fun h3 m1 m2 m3 m4=>?_
      have A3:Aft (yQ X pins _) e Ts s1.heap h3:=mU I1 m1 fun b o q d=>by
       obtain ⟨sl,q'⟩:=k4 b o q d
       exact ⟨sl,m4 b _ q' d⟩
      have I3:=Inv.aft I1' A3 hex hf5
      obtain ⟨oe3,vs3,T3,oT3,ts3,u1,⟨u2,u3⟩,u4,_⟩:=m3
      have I4:=Inv.freeze I3 fe u1 u4 fn.1 fun p hp=>fn.2 p (by simpa using hp)
      have J4:Inv (kh X pins e) [] σ1 (upd H1 e (.frz oe3 (.ext fun _=>True))) { s1 with heap:=h3 }:=mZ (gH I4)
      refine fZ (X:=kh X pins e) J4 hN hi (.inl hl) (v:=.ref e) rfl (fun s5 J5=>?_) (.inr hl)
      have rep:Rep X.K (upd H1 e (.frz oe3 (.ext fun _=>True))) (.exn c) (.ref e):=⟨e,oe3,_,C,rfl,am,u2,hC⟩
      have E5:Envs X.K (upd H1 e (.frz oe3 (.ext fun _=>True))) (σ1.set i (some (.ref e))) ((rl N none).set i (some (.exn c))):=by
       refine Envs.set (ρ:=rl N none) ⟨?_,fun j d hj=>?_⟩ rep
       · rw [I1.len,Ip]; exact hNl
       · rw [IU] at hj
         split at hj <;> cases hj
      match hg:g ((rl N none).set i (some (.exn c))) with
      | none=>rw [hg] at o; exact o.elim
      | some (.exc c2)=>rw [hg] at o; exact o.elim
      | some (.ok d) =>
       rw [hg] at o
       have hrun:=(lE (pR (pos:=rp2) (hh pins e))).h [] s5 _ _ { nx:=fun _ _=>False,rt:=D.rt } J5 ⟨_,E5,(by
        unfold bh
        rw [hg]
        exact fun v H' e1 r=>o v H' ((same.trans (au fe _)).trans e1) r)⟩
       refine GC hrun (fun fl s6 hs=>?_) fun _ _ z=>z.elim
       cases fl with
       | ret u =>
        obtain ⟨v,σ6,H6,J6,rv,q6⟩:=hs
        have J7:Inv X pins σ6 H6 s6:=oB I.ok J6
        have hil:i < σ6.length:=by rw [J7.len]; exact (xy.mp hi).1
        refine b_ (wpAny_bindName (fZ J7 hN hi (.inl hl) (v:=.non) rfl (fun s7 J8=>?_) (.inr hl)))
        exact qi J8 hN hi hl (v:=.non) (B_ hil) fun s8 J9=>⟨v,_,H6,J9,rv,q6⟩
       | next=>obtain ⟨_,_,_,z⟩:=hs; exact Gz z
       | brk=>obtain ⟨_,_,_,z⟩:=hs; exact Gz z
       | cont=>obtain ⟨_,_,_,z⟩:=hs; exact Gz z
    · rw [if_neg hcm] at o
      exact o.elim
 · cases fl with
   | ret u =>
    obtain ⟨v,σ',H',I',rv,q⟩:=hs
    exact ⟨v,σ',H',gH I',rv,q⟩
   | next=>obtain ⟨_,_,_,z⟩:=hs; exact Gz z
   | brk=>obtain ⟨_,_,_,z⟩:=hs; exact Gz z
   | cont=>obtain ⟨_,_,_,z⟩:=hs; exact Gz z
end
end FD
namespace FD
open PySem PySem.Spec PyProof.Rows L2
def DQ:List Dv→List Dv→Option (Rs Dv)
 | xs,[x]=>if df x && xs.all df && decide (xs.length≤100000) then some (.ok (.int (xs.countP (fun y=>eqF y x):Nat))) else none
 | _,_=>none
def Aq:V→List V→Hp→VK→Prop:=fun x xs H Q=>∃ a vs y,x=.ref a∧xs=[y]∧H a=some (.lst vs)∧c7 y=true∧vs.all c7=true∧vs.length≤100000∧Q (.int (vs.countP (fun v=>eqV v y):Nat)) H
section
variable {X:Cx} {apos cpos:Pos} {e o:Expr} {es:List Expr} {ga:FnA} {fo:FnE}
theorem iE {y:V}:∀ {vs:List V} {its:List Value},Vals vs its→vs.all c7=true→its.countP (eqU y)=vs.countP fun v=>eqV v y
 | _,_,.nil,_=>rfl
 | _,_,.cons (a:=v) (b:=u) r t,f=>by
  rw [Hw,g_] at f
  rw [K1,K1,iE t f.2,mL r f.1]
theorem qk:MtR X "list.count" Aq:=by
 intro pins s σ H x xs v us Q I rx rs h
 obtain ⟨a,vs,y,rfl,rfl,h1,fy,fv,hz,q⟩:=h
 cases rx
 obtain ⟨u,rfl,ru⟩:=fq rs
 obtain ⟨z,its,n,rv,hl,e⟩:=I.lstM h1
 refine Jv Mf ⟨_,e,rfl⟩ PySem.F.entry_list_count (PySem.F.args_list_count_2 _ _) (SeqAt.list_countAt a its.toArray n none #[] u (eqU y)) ⟨e,fun t ht=>cV ru fy rv fv t (by simpa using ht),⟨.int (vs.countP (fun v=>eqV v y):Nat),H,I.tok _,⟨s.toks,?_⟩,q⟩⟩
 have:=iE (y:=y) rv fv
 rw [IL,this]
theorem vF {K:ck} {H:Hp} {x:Dv} {u:V} (q:Rep K H x u) (hx:df x=true):∀ {xs:List Dv} {vs:List V},Reps K H xs vs→xs.all df=true→vs.countP (fun v=>eqV v u)=xs.countP fun y=>eqF y x
 | [],vs,r,_=>by cases (show vs=[] from r); rfl
 | y :: ys,vs,r,f=>by
  obtain ⟨v,ws,rfl,r1,r2⟩:∃ v us,vs=v :: us∧Rep K H y v∧Reps K H ys us:=r
  rw [Hw,g_] at f
  rw [K1,K1,vF q hx r2 f.2,pY r1 q f.1 hx]
theorem tW (ho:FE X o fo) (ha:FA X (e :: es) ga)
 (hbase:HV o "count" X.env (eval o X.env)=eval o X.env:=by kernel_rfl)
 (hfew:((GA cpos (e_ (e :: es) X.env)).all (fun x=>!x.1) && (Ii cpos (Hc [] X.env)).all (fun x=>x.1.isSome)
   && decide ((e :: es).length + ([]:List Ia).length + (if ([]:List Ia).isEmpty then 0 else 1) < 30))=true:=by kernel_rfl)
 (hline:(apos.endLine == cpos.line)=true:=by kernel_rfl) (hs:e_ (e :: es) X.env=(false,eval e X.env) :: e_ es X.env:=by kernel_rfl) (hplain:(GA cpos (e_ es X.env)).any (·.1)=false:=by kernel_rfl) :
 FE X (.Call (.Attribute o "count" apos) (e :: es) [] cpos) (fML DQ fo ga) :=
 bO (sU Kl Mf PySem.F.type_list_count qk ho.h ha.h hbase hfew hline hs hplain) fun σ H Q ρ E o=>⟨ρ,E,Out.bind o fun d v H1 e1 rd o1=>by
  cases d <;> try exact (show False from o1).elim
  rename_i ds
  obtain ⟨a,vs,rfl,h1,h2⟩:=rd.lstE
  refine ⟨.inl ⟨rfl,vs,SqL.of h1⟩,ρ,E.mono e1,OutA.bind o1 fun es ws H2 e2 rs o2=>?_⟩
  unfold DQ at o2
  split at o2
  · rename_i x
    split at o2
    · rename_i hc
      rw [g_,g_] at hc
      obtain ⟨w,rfl,rw'⟩:=dg rs
      have h2':=Reps.mono e2 _ _ h2
      refine ⟨a,vs,w,rfl,rfl,e2 _ _ h1,jh rw' hc.1.1,gd h2' hc.1.2,by rw [h2.length]; exact of_decide_eq_true hc.2,?_⟩
      rw [vF rw' hc.1.1 h2' hc.1.2]
      exact o2 _ H2 (.refl H2) rfl
    · exact o2.elim
  · exact o2.elim⟩
end
section
variable {X:Cx} {a b c:Expr} {fa fb fc:FnE} {pos:Pos}
end
def m5 (x:Str) (n:Int):Str:=if n < 1 then O5 else if (n == 1 || x.length == 0)=true then x else ⟨(rl n.toNat x.cps).foldl (· ++ ·) #[]⟩
def Fk:Dv→Dv→Option (Rs Dv)
 | .str x,.int n=>if x.length≤1000∧-1000≤n∧n≤1000 then some (.ok (.str (m5 x n))) else none
 | x,y=>fQ x y
section
variable {X:Cx}
def tX:R2:=fun x y H Q=>∃ i n,x=.str i∧y=.int n∧(i.length≤1000∧-1000≤n∧n≤1000)∧Q (.str (m5 i n)) H
theorem m7 (a:Array Nat):∀ (k:Nat) (acc:Array Nat),((rl k a).foldl (· ++ ·) acc).size=acc.size + k * a.size
 | 0,acc=>by simp
 | k + 1,acc=>by
  rw [Hq,Ix,m7 a k (acc ++ a),Oa,Nat.succ_mul]
  omega
theorem ql {a n:Nat} (h1:a≤1000) (h2:n≤1000):n * a≤sizeLine:=by
 have h3:n * a≤1000 * 1000:=Nat.mul_le_mul h2 h1
 rw [IV]
 exact GG h3 (by decide)
theorem op_mulS:OpR X (HQ .Mult) tX:=by
 intro pins s σ H x y v u Q I rx ry ⟨i,n,hx,hy,hc,q⟩
 subst hx hy
 obtain ⟨t,rfl⟩:=rx
 obtain ⟨t2,rfl⟩:=ry
 have h0:(decide (n < -(2 ^ 63:Int)) || decide (n ≥ 2 ^ 63))=false:=by
  have h1:¬ n < -(2 ^ 63:Int):=by omega
  have h2:¬ n ≥ 2 ^ 63:=by omega
  rw [decide_eq_false h1,decide_eq_false h2]; rfl
 refine P.mul_str h0 (fun h1 h2 h3=>?_) (fun h1 h2=>?_) ?_
 · have hn:0 < n:=by omega
   have e1:=Int.mul_ediv_add_emod (2 ^ 63 - 1) n
   have e2:=Hz (2 ^ 63 - 1) hn
   have hq:(2 ^ 63 - 1:Int) / n < 1000:=by omega
   have hq0:0≤(2 ^ 63 - 1:Int) / n:=Int.ediv_nonneg (by decide) (by omega)
   have h4:n * ((2 ^ 63 - 1:Int) / n)≤1000 * ((2 ^ 63 - 1:Int) / n):=Int.mul_le_mul_of_nonneg_right hc.2.2 hq0
   omega
 · show decide (i.length * n.toNat > sizeLine)=false
   have:=ql (a:=i.length) (n:=n.toNat) hc.1 (by omega)
   rw [N8]
   exact decide_eq_false (by omega)
 · unfold m5 at q
   split
   · rename_i h1
     rw [if_pos h1] at q
     exact ⟨by decide,⟨.str O5,H,I.tok _,⟨_,rfl⟩,q⟩⟩
   · rename_i h1
     rw [if_neg h1] at q
     split
     · rename_i h2
       rw [if_pos h2] at q
       exact ⟨.str i,H,I,⟨_,rfl⟩,q⟩
     · rename_i h2
       rw [if_neg h2] at q
       refine ⟨?_,⟨.str _,H,I.tok _,⟨_,rfl⟩,q⟩⟩
       show ((rl n.toNat i.cps).foldl (· ++ ·) #[]).size≤sizeLine
       rw [m7]
       have:=ql (a:=i.length) (n:=n.toNat) hc.1 (by omega)
       have e:i.cps.size=i.length:=rfl
       rw [e]
       simpa using this
theorem Ar:OpR X (HQ .Mult) (fun x y H Q=>tX x y H Q∨rI CMul (fun i j=>.int (i * j)) x y H Q):=op_mulS.or vj
theorem vG:GOp X (fun x y H Q=>tX x y H Q∨rI CMul (fun i j=>.int (i * j)) x y H Q) Fk:=by
 intro dx dy x y H Q rx ry o
 cases dx with
 | str i =>
  cases dy with
  | int n =>
   have o2:Out X H (if i.length≤1000∧-1000≤n∧n≤1000 then some (.ok (.str (m5 i n))) else none) Q:=o
   by_cases hc:i.length≤1000∧-1000≤n∧n≤1000
   · rw [if_pos hc] at o2
     exact .inl ⟨i,n,rx,ry,hc,o2 _ H (.refl H) rfl⟩
   · rw [if_neg hc] at o2
     exact o2.elim
  | _=>exact (show False from o).elim
 | _=>exact .inr (zZ _ _ x y H Q rx ry o)
end
end FD
namespace FD
open PySem PySem.Spec PyProof.Rows L2 PySem.W
def xiB (K:ck) (C:Addr):Bool:=findIn K (.ref C) "__getattribute__" == some (some (.builtin "BaseException.__getattribute__")) && findIn K (.ref C) "__getattr__" == some none && findIn K (.ref C) "__class__" == some (some (.builtin "object.__class__")) &&
 specialIn K (.builtin "object.__class__") "__get__" == some (some (.builtin "getset_descriptor.__get__")) && takesIn K (.builtin "object.__class__") == some true && mroIn K C (.type "object") == some true && mroIn K C (.type "BaseException") == some true
theorem DR {K:ck} {C:Addr} (h:xiB K C=true):XI K C:=by
 unfold xiB at h
 simp only [g_,beq_iff_eq] at h
 exact ⟨h.1.1.1.1.1.1,h.1.1.1.1.1.2,h.1.1.1.1.2,h.1.1.1.2,h.1.1.2,h.1.2,h.2⟩
structure XAll (K:ck) (m:Nat) (cls:Nat→Addr) (CJ:Addr):Prop where
 at_:∀ c,c < m→nsIn K w_ (xnm c)=some (some (.ref (cls c)))∧excIn K (cls c) bmV "ValueError.__new__"=true∧XI K (cls c)∧mroIn K (cls c) (.ref CJ)=some true∧kitOne K (.ref (cls c)) (.type "ValueError")=some true∧∀ d,d < m→kitOne K (.ref (cls c)) (.ref (cls d))=some (c == d)
 exJ:excIn K CJ bmV "ValueError.__new__"=true
section
variable {K:ck} {m:Nat} {cls:Nat→Addr} {CJ:Addr} (x:XAll K m cls CJ)
include x
theorem XAll.xc (c:Nat) (h:c < m):XC K c (cls c):=⟨(x.at_ c h).1,(x.at_ c h).2.1⟩
theorem XAll.same {c:Nat} {C:Addr} (h:c < m) (q:nsIn K w_ (xnm c)=some (some (.ref C))):C=cls c:=by
 have z:=(x.at_ c h).1
 rw [q] at z
 cases z
 rfl
theorem XAll.xk:∀ c C,c < m→nsIn K w_ (xnm c)=some (some (.ref C))→excIn K C bmV "ValueError.__new__"=true∧mroIn K C (.ref CJ)=some true:=fun c C h q=>by
 rw [x.same h q]
 exact ⟨(x.at_ c h).2.1,(x.at_ c h).2.2.2.1⟩
theorem XAll.xtO (d:Nat) (hd:d < m):XT K (fun c=>if c < m then some (c == d) else none) (.ref (cls d)):=fun c b hb C q=>by
 dsimp only at hb
 split at hb
 · rename_i h
   cases hb
   rw [x.same h q]
   exact ⟨(x.at_ c h).2.2.1,(x.at_ c h).2.2.2.2.2 d hd⟩
 · cases hb
theorem XAll.xtV:XT K (fun c=>if c < m then some true else none) (.type "ValueError"):=fun c b hb C q=>by
 dsimp only at hb
 split at hb
 · rename_i h
   cases hb
   rw [x.same h q]
   exact ⟨(x.at_ c h).2.2.1,(x.at_ c h).2.2.2.2.1⟩
 · cases hb
end
end FD
namespace FD
open PySem
theorem jq:Hk (a_ "ValueError")=some (.type "ValueError"):=by kernel_rfl
end FD
namespace FD
open PySem PySem.Spec PyProof.Rows L2
section
variable {X:Cx}
end
section
variable {X:Cx}
def bb (x y:Dv):Option (Rs Dv):=match x,y with
 | .tup a,.tup b=>if a.length + b.length≤100000 then some (.ok (.tup (a ++ b))) else none
 | x,y=>ii x y
theorem tY {prog:Program} {w:x_} {A:u_} {E:Value→c_→Prop} {s:c_} {t b:Addr} {ws:List Value} {Q:Value→c_→Prop} (ht:OX s.heap t #[]) (hb:OX s.heap b ws.toArray) (h0:Q (.ref b) s) :
 m_ (pi prog w) A (HQ .Add (.ref t) (.ref b)) Q E s:=by
 obtain ⟨⟨cls,dd,data,sl⟩,ho,hc,n,hd⟩:=id ht
 obtain ⟨⟨cls2,dd2,data2,sl2⟩,ho2,hc2,n2,hd2⟩:=id hb
 simp only at hc hd hc2 hd2
 subst hc hd hc2 hd2
 exact NX ⟨_,ho,rfl⟩ ⟨_,ho2,rfl⟩ Mb Nx Kw Km (JR _ _)
  (tuple_addW0 t b #[] ws.toArray n n2 dd dd2 sl sl2 (by simp)) ⟨ho,ho2,h0⟩
def vH (K:ck):R2:=fun x y H Q=>∃ a b ys,x=.ref a∧y=.ref b∧SqT K H a []∧SqT K H b ys∧Q (.ref b) H
theorem tZ:OpR X (HQ .Add) (vH X.K):=by
 intro pins s σ H x y v u Q I rx ry h
 obtain ⟨a,b,ys,rfl,rfl,ha,hb,q⟩:=h
 cases rx
 cases ry
 obtain ⟨its,r1,p1,_⟩:=I.tuple ha
 obtain ⟨its2,r2,p2,_⟩:=I.tuple hb
 cases r1
 exact tY p1 p2 ⟨.ref b,H,I,rfl,q⟩
def As (X:Cx):R2:=fun x y H Q=>wN x y H Q∨(zp X.K x y H Q∨vH X.K x y H Q)
theorem At:OpR X (HQ .Add) (As X):=o_add.or (op_catT.or tZ)
theorem qm {x y:Dv} (h:∀ a b,¬ (x=.tup a∧y=.tup b)):bb x y=ii x y:=by
 unfold bb
 split
 · rename_i a b
   exact absurd ⟨rfl,rfl⟩ (h a b)
 · rfl
theorem Au:GOp X (As X) bb:=by
 intro dx dy x y H Q rx ry o
 by_cases hc:∃ a b,dx=.tup a∧dy=.tup b
 · obtain ⟨a,b,rfl,rfl⟩:=hc
   have o':Out X H (if a.length + b.length≤100000 then some (.ok (.tup (a ++ b))) else none) Q:=o
   split at o'
   · rename_i hl
     obtain ⟨p,xs,rfl,h1,q1⟩:=rx.tupE
     obtain ⟨p2,ys,rfl,h2,q2⟩:=ry.tupE
     cases xs with
     | nil =>
      have ha:a=[]:=by
       have:=q1.length
       exact IT.mp this.symm
      subst ha
      exact .inr (.inr ⟨p,p2,ys,rfl,rfl,SqT.of h1,SqT.of h2,o' _ H (.refl H) ⟨p2,ys,rfl,h2,by simpa using q2⟩⟩)
     | cons x0 xs =>
      refine .inr (.inl ⟨p,p2,x0 :: xs,ys,rfl,rfl,SqT.of h1,SqT.of h2,by simp,by rw [q1.length,q2.length]; exact bg hl,fun hy=>?_,fun hy l hl=>o' _ _ (au hl _) ⟨l,_,rfl,am,Reps.mono (au hl _) _ _ (q1.append q2)⟩⟩)
      subst hy
      have hb:b=[]:=IT.mp q2.length.symm
      subst hb
      exact o' _ H (.refl H) ⟨p,_,rfl,h1,by simpa using q1⟩
   · exact o'.elim
 · rw [qm (fun a b h=>hc ⟨a,b,h⟩)] at o
   exact .inl (zX dx dy x y H Q rx ry o)
theorem dU {prog:Program} {w:x_} {A:u_} {E:Value→c_→Prop} {s:c_} {t sl:Addr} {items:Array Value} {vl vu:Value} {lo hi:Option Int} {Q:Value→c_→Prop} (ht:OX s.heap t items) (hs:s.heap.IsSliceOf sl vl vu .none) (pl:ME vl lo) (pu:ME vu hi)
 (hw:HT.sIx items.size 0 lo=0∧HT.sIx items.size items.size hi=items.size) (h:Q (.ref t) s):m_ (pi prog w) A (MB (.ref t) (.ref sl)) Q E s:=by
 obtain ⟨os,hos,hcs,hds⟩:=id hs
 have hTs:s.TypeIs (.ref sl) "slice":=⟨os,hos,hcs⟩
 unfold MB
 try with_reducible refine GV ?_
 first | refine b_ (d_ ?_) | skip
 refine b_ (wpAny_sequenceKey ht.typeIs (by decide) ?_)
 refine b_ (G3 (name:=a_ "__getitem__") ht.typeIs GY
  (G9 GY ht.typeIs entry_tuple_getitem ?_ (args_tuple_getitem _ _)))
 show m_ _ _ (LF (.ref t) >>= _) _ _ s
 refine b_ (tupleItemsOf_ ht ?_)
 refine b_ (Kp hTs ?_)
 rw [if_pos (by decide)]
 refine b_ (HT.sliceApplied_gen hs pl pu ?_)
 have hyes:(((HT.sIx items.size 0 lo:Nat):Int) == 0 && (1:Int) == 1 && (HT.sIx items.size items.size hi - HT.sIx items.size 0 lo) == items.size)=true:=by
  rw [hw.1,hw.2]
  simp
 show m_ _ _ (if (((HT.sIx items.size 0 lo:Nat):Int) == 0 && (1:Int) == 1 && (HT.sIx items.size items.size hi - HT.sIx items.size 0 lo) == items.size)=true then _ else _) _ _ s
 rw [if_pos hyes]
 refine b_ (b_ (Kp ht.typeIs (d_ ?_)))
 rw [if_pos (by decide)]
 exact b_ (J0 (d_ ⟨_,rfl,d_ h⟩))
def F9 (K:ck):V→Option Int→Option Int→Hp→VK→Prop:=fun x lo hi H Q=>∃ a xs,x=.ref a∧SqT K H a xs ∧
 (HT.sIx xs.length 0 lo=0∧HT.sIx xs.length xs.length hi=xs.length)∧Q (.ref a) H
theorem ua:SlR X (F9 X.K):=by
 intro pins s σ H x v vl vu lo hi sl Q I rx hs pl pu h
 obtain ⟨a,xs,rfl,hx,hw,q⟩:=h
 cases rx
 obtain ⟨its,r,ht,hz⟩:=I.tuple hx
 have hlen:its.toArray.size=xs.length:=by rw [y_]; exact r.length.symm
 refine ⟨"tuple",_,GY.lookup,ht.typeIs,?_⟩
 exact dU ht hs pl pu (by rw [hlen]; exact hw) ⟨.ref a,H,I,rfl,q⟩
def Fm (x:Dv) (lo hi:Option Int):Option (Rs Dv):=match x with
 | .tup xs=>some (.ok (.tup (yP xs lo hi)))
 | x=>Fe x lo hi
def dk (fa:FnE) (fl fh:FnO):FnE:=fun ρ=>bnd (fa ρ) fun x=>bnd (fl ρ) fun lo=>bnd (fh ρ) fun hi=>Fm x lo hi
theorem oD {α:Type} {xs:List α} {lo hi:Option Int} (h:HT.sIx xs.length 0 lo=0∧HT.sIx xs.length xs.length hi=xs.length):yP xs lo hi=xs:=by
 unfold yP
 rw [h.1,h.2]
 simp
theorem xj {a:Expr} {lo hi:Option Expr} {fa:FnE} {fl fh:FnO} {p2 pos:Pos} (ha:FE X a fa) (hl:FO X lo fl) (hh:FO X hi fh):FE X (.Subscript a (.Slice lo hi none p2) pos) (dk fa fl fh) :=
 bO (sT ((sl_str.or wB).or (sl_tup.or ua)) ha.h hl.h hh.h) fun σ H Q ρ E o=>⟨ρ,E,Out.bind o fun d v H1 e1 r1 o1=>⟨ρ,E.mono e1,j7 o1 fun l H2 e2 o2=>⟨ρ,(E.mono e1).mono e2,j7 o2 fun u H3 e3 o3=>by
  have r3:=Rep.mono e3 d v (Rep.mono e2 d v r1)
  cases d <;> try exact (show False from o3).elim
  · rename_i z
    unfold Fm Fe at o3
    dsimp only at o3
    split at o3
    · rename_i hz
      exact .inl (.inl ⟨z,r3,bg hz,o3 _ H3 (.refl H3) rfl⟩)
    · exact o3.elim
  · rename_i ds
    obtain ⟨a',xs,rfl,h1,h2⟩:=r3.tupE
    have hlen:=h2.length
    by_cases hw:HT.sIx xs.length 0 l=0∧HT.sIx xs.length xs.length u=xs.length
    · refine .inr (.inr ⟨a',xs,rfl,SqT.of h1,hw,o3 _ H3 (.refl H3) ⟨a',xs,rfl,h1,?_⟩⟩)
      rw [oD (by rw [← hlen]; exact hw)]
      exact h2
    · refine .inr (.inl ⟨a',xs,rfl,SqT.of h1,hw,fun p hp=>o3 _ _ (au hp _) ⟨p,_,rfl,am,Reps.mono (au hp _) _ _ ?_⟩⟩)
      unfold vn yP
      rw [h2.length]
      exact (h2.drop _).take _
  · rename_i ds
    obtain ⟨a',xs,rfl,h1,h2⟩:=r3.lstE
    refine .inl (.inr ⟨a',xs,rfl,SqL.of h1,fun p hp=>o3 _ _ (au hp _) ⟨p,_,rfl,am,Reps.mono (au hp _) _ _ ?_⟩⟩)
    unfold vn yP
    rw [h2.length]
    exact (h2.drop _).take _⟩⟩⟩
def inP (x:Dv) (ys:List Dv):Option Bool:=if okP x && decide ((bp x).depth≤63) && Ht (toPys ys) then some ((toPys ys).any fun y=>GN y (bp x)) else none
def Av (x y:Dv):Option Bool:=match wP x y with
 | some b=>some b
 | none=>match y with
  | .lst ys=>inP x ys
  | .tup ys=>inP x ys
  | _=>none
def inX (x y:Dv):Option (Rs Dv):=match Av x y with
 | some b=>some (.ok (.bl b))
 | none=>none
def bB (x y:Dv):Option (Rs Dv):=match Av x y with
 | some b=>some (.ok (.bl (!b)))
 | none=>none
def Cw (X:Cx) (neg:Bool):R2:=fun x y H Q=>∃ dx ys b,Rep X.K H dx x∧(Rep X.K H (.lst ys) y∨Rep X.K H (.tup ys) y)∧inP dx ys=some b∧Q (.bl (if neg then !b else b)) H
theorem Aw (hu:X.A.units + 64 < cLine):OpR X (Gx .In) (Cw X false):=by
 intro pins s σ H x y v u Q I rx ry h
 obtain ⟨dx,ys,b,qx,qy,hb,q⟩:=h
 unfold inP at hb
 split at hb
 · rename_i hc
   cases hb
   obtain ⟨⟨c1,c2⟩,c3⟩:(okP dx=true∧(bp dx).depth≤63)∧Ht (toPys ys)=true:=by simpa using hc
   obtain ⟨as,ra⟩:=Rep.reads I dx x v qx rx (GT.mp c1).1
   have hd:X.A.units + 1 + min (Iv (toPys ys)) (bp dx).depth < cLine:=by
    have:=Mp (Iv (toPys ys)) (bp dx).depth
    omega
   rcases qy with qy | qy
   · obtain ⟨bs,rb⟩:=Rep.reads I (.lst ys) y u qy ry (by simpa [bp,G4] using c3)
     exact SeqAt.in_list_reads rb ra c3 (GT.mp c1).1 hd ⟨.bl _,H,I,rfl,q⟩
   · obtain ⟨bs,rb⟩:=Rep.reads I (.tup ys) y u qy ry (by simpa [bp,G4] using c3)
     exact SeqAt.in_tuple_reads rb ra c3 (GT.mp c1).1 hd ⟨.bl _,H,I,rfl,q⟩
 · cases hb
theorem qo (hu:X.A.units + 64 < cLine):OpR X (Gx .NotIn) (Cw X true):=by
 intro pins s σ H x y v u Q I rx ry h
 obtain ⟨dx,ys,b,qx,qy,hb,q⟩:=h
 unfold inP at hb
 split at hb
 · rename_i hc
   cases hb
   obtain ⟨⟨c1,c2⟩,c3⟩:(okP dx=true∧(bp dx).depth≤63)∧Ht (toPys ys)=true:=by simpa using hc
   obtain ⟨as,ra⟩:=Rep.reads I dx x v qx rx (GT.mp c1).1
   have hd:X.A.units + 1 + min (Iv (toPys ys)) (bp dx).depth < cLine:=by
    have:=Mp (Iv (toPys ys)) (bp dx).depth
    omega
   rcases qy with qy | qy
   · obtain ⟨bs,rb⟩:=Rep.reads I (.lst ys) y u qy ry (by simpa [bp,G4] using c3)
     exact SeqAt.notIn_list_reads rb ra c3 (GT.mp c1).1 hd ⟨.bl _,H,I,rfl,q⟩
   · obtain ⟨bs,rb⟩:=Rep.reads I (.tup ys) y u qy ry (by simpa [bp,G4] using c3)
     exact SeqAt.notIn_tuple_reads rb ra c3 (GT.mp c1).1 hd ⟨.bl _,H,I,rfl,q⟩
 · cases hb
def Fp (X:Cx):R2:=fun x y H Q=>Dx X.K x y H Q∨Cw X false x y H Q
def qp (X:Cx):R2:=fun x y H Q=>lG X.K x y H Q∨Cw X true x y H Q
theorem DS (hu:X.A.units + 64 < cLine):OpR X (Gx .In) (Fp X):=o_in.or (Aw hu)
theorem ub (hu:X.A.units + 64 < cLine):OpR X (Gx .NotIn) (qp X):=o_notIn.or (qo hu)
theorem DT:GOp X (Fp X) inX:=by
 intro dx dy x y H Q rx ry o
 unfold inX Av at o
 match h0:wP dx dy with
 | some b =>
  rw [h0] at o
  exact .inl (Fd dx dy x y H Q rx ry (by unfold inD; rw [h0]; exact o))
 | none =>
  rw [h0] at o
  cases dy <;> try exact (show False from o).elim
  · rename_i ys
    match hp:inP dx ys with
    | none=>simp only [hp] at o; exact (show False from o).elim
    | some b=>simp only [hp] at o; exact .inr ⟨dx,ys,b,rx,.inr ry,hp,o _ H (.refl H) rfl⟩
  · rename_i ys
    match hp:inP dx ys with
    | none=>simp only [hp] at o; exact (show False from o).elim
    | some b=>simp only [hp] at o; exact .inr ⟨dx,ys,b,rx,.inl ry,hp,o _ H (.refl H) rfl⟩
theorem uc:GOp X (qp X) bB:=by
 intro dx dy x y H Q rx ry o
 unfold bB Av at o
 match h0:wP dx dy with
 | some b =>
  rw [h0] at o
  exact .inl (pZ dx dy x y H Q rx ry (by unfold j6; rw [h0]; exact o))
 | none =>
  rw [h0] at o
  cases dy <;> try exact (show False from o).elim
  · rename_i ys
    match hp:inP dx ys with
    | none=>simp only [hp] at o; exact (show False from o).elim
    | some b=>simp only [hp] at o; exact .inr ⟨dx,ys,b,rx,.inr ry,hp,o _ H (.refl H) rfl⟩
  · rename_i ys
    match hp:inP dx ys with
    | none=>simp only [hp] at o; exact (show False from o).elim
    | some b=>simp only [hp] at o; exact .inr ⟨dx,ys,b,rx,.inl ry,hp,o _ H (.refl H) rfl⟩
end
abbrev xl (its:List Value) (n:Nat):Obj:={ cls:=.type "list",data:=.seq its.toArray n }
section
variable {X:Cx} {pins:List (Addr×Obj)} {σ:L2.St} {H:Hp} {s:c_} {a:Addr} {xs:List V}
theorem Inv.untrack (I:Inv X pins σ (upd H a (.lst xs)) s) (ha:H a=none) (hex:X.ex=[]):∃ its n,Vals xs its∧xs.length≤sizeLine∧(∀ o,X.s₀.heap.get? a=some o→X.H₀ a≠none)∧(∀ p∈X.pn ++ pins,p.1≠a)∧Inv X (pins ++ [(a,xl its n)]) σ H s:=by
 obtain ⟨z,its,n,rv,hl,e⟩:=I.lstM (l:=a) (xs:=xs) am
 have hb:∀ b u,H b=some u→b≠a:=fun b u q=>ar q ha
 have low:∀ b,upd H a (.lst xs) b=none→H b=none:=fun b q=>by
  by_cases hba:b=a
  · rw [hba]; exact ha
  · rw [ao hba] at q; exact q
 have dn:∀ b u,upd H a (.lst xs) b=some u→(∀ ys,u≠.lst ys)→H b=some u:=fun b u q hu=>by
  by_cases hba:b=a
  · rw [hba,am] at q
    exact absurd (GL q).symm (hu xs)
  · rw [ao hba] at q; exact q
 have nfs:a ∉ X.fs:=fun hm=>by
  obtain ⟨_,o,ho,_⟩:=I.ok.funs.mem hm
  have:=I.base.free a o ho (I.ok.frf a hm) (by rw [hex]; simp)
  rw [am] at this
  cases this
 have npin:∀ p∈X.pn ++ pins,p.1≠a:=fun p hp w=>by
  have:=(I.pin p hp).2.1
  rw [w,am] at this
  cases this
 refine ⟨its,n,rv,z,fun o ho h0=>?_,npin,⟨I.ok,I.os,I.bare,⟨I.base.keep,I.base.slot,fun b o q n hx=>low b (I.base.free b o q n hx),I.base.there,fun b ys q=>dn b _ (I.base.tups b ys q) (fun _ w=>by cases w),fun b o u q=>dn b _ (I.base.frzs b o u q) (fun _ w=>by cases w),fun b ps q=>?_⟩,I.loc,I.cell,low _ I.free,fun x c q=>low _ (I.freeC x c q),fun p hp=>?_,fun b u q=>?_,I.len⟩⟩
 · have:=I.base.free a o ho h0 (by rw [hex]; simp)
   rw [am] at this
   cases this
 · obtain ⟨more,q'⟩:=I.base.tbls b ps q
   exact ⟨more,dn b _ q' (fun _ w=>by cases w)⟩
 · rcases F_.mp hp with h1 | h1
   · obtain ⟨q1,q2,q3⟩:=I.pin p (Gp _ h1)
     exact ⟨q1,low _ q2,q3⟩
   · rcases F_.mp h1 with h1 | h1
     · obtain ⟨q1,q2,q3⟩:=I.pin p (s_ _ h1)
       exact ⟨q1,low _ q2,q3⟩
     · simp only [Gr] at h1
       subst h1
       refine ⟨e,ha,fun w=>?_,nfs,fun v w=>by cases w⟩
       obtain ⟨m,⟨o,es,ep,ho,hd,_⟩,_⟩:=I.loc
       have w':a=X.env.locals:=w
       rw [← w',e] at ho
       cases ho
       cases hd
 · have hq:upd H a (.lst xs) b=some u:=by rw [ao (hb b u q)]; exact q
   refine (I.hok b u hq).stay (fun _ _ _ w=>w) (fun c w=>dn c _ w (fun _ w=>by cases w)) fun c ys w=>dn c _ w (fun _ w=>by cases w)
theorem Inv.retrack {its:List Value} {n:Nat} (I:Inv X (pins ++ [(a,xl its n)]) σ H s) (rv:Vals xs its) (hz:xs.length≤sizeLine) (h0:∀ o,X.s₀.heap.get? a=some o→X.H₀ a≠none) (hp0:∀ p∈X.pn ++ pins,p.1≠a):H a=none∧Inv X pins σ (upd H a (.lst xs)) s:=by
 obtain ⟨e,ha,nL,nf,nc⟩:=I.pin (a,xl its n) (s_ _ (s_ _ (by simp)))
 have up:∀ b u,H b=some u→upd H a (.lst xs) b=some u:=fun b u q=>by rw [ao (ar q ha)]; exact q
 have lo:∀ b,H b=none→b≠a→upd H a (.lst xs) b=none:=fun b q h=>by rw [ao h]; exact q
 refine ⟨ha,⟨I.ok,I.os,I.bare,⟨I.base.keep,I.base.slot,fun b o q n hx=>lo b (I.base.free b o q n hx) (fun w=>h0 o (w ▸ q) (w ▸ n)),I.base.there,fun b ys q=>up b _ (I.base.tups b ys q),fun b o u q=>up b _ (I.base.frzs b o u q),fun b ps q=>?_⟩,I.loc,I.cell,lo _ I.free (Im nL),fun x c q=>lo _ (I.freeC x c q) (fun w=>?_),fun p hp=>?_,fun b u q=>?_,I.len⟩⟩
 · obtain ⟨more,q'⟩:=I.base.tbls b ps q
   exact ⟨more,up b _ q'⟩
 · obtain ⟨v,o,ho,hd⟩:=I.cell x c q
   rw [w] at ho
   have e':s.heap.get? a=some (xl its n):=e
   rw [e'] at ho
   cases ho
   cases hd
 · obtain ⟨q1,q2,q3⟩:=I.pin p (by
    rcases F_.mp hp with h1 | h1
    · exact Gp _ h1
    · exact s_ _ (Gp _ h1))
   exact ⟨q1,lo _ q2 (hp0 p hp),q3⟩
 · by_cases hb:b=a
   · subst hb
     rw [am] at q
     cases q
     exact ⟨hz,its,n,rv,e⟩
   · rw [ao hb] at q
     exact (I.hok b u q).stay (fun _ _ _ w=>w) (fun c w=>up c _ w) fun c ys w=>up c _ w
end
def DU (t:TE):TE:=fun σ Hf Q=>∃ H a xs,Hf=upd H a (.lst xs)∧H a=none∧t σ H fun v H'=>H' a=none→Q v (upd H' a (.lst xs))
def DV (t:TT):TT:=fun σ Hf Q=>∃ H a xs,Hf=upd H a (.lst xs)∧H a=none∧t σ H fun v H'=>H' a=none→Q v (upd H' a (.lst xs))
def DW (t:TA):TA:=fun σ Hf Q=>∃ H a xs,Hf=upd H a (.lst xs)∧H a=none∧t σ H fun v H'=>H' a=none→Q v (upd H' a (.lst xs))
def DX (t:TI):TI:=fun σ Hf Q=>∃ H a xs,Hf=upd H a (.lst xs)∧H a=none∧t σ H fun v H'=>H' a=none→Q v (upd H' a (.lst xs))
section
variable {X:Cx} {e:Expr} {es:List Expr}
theorem xn (hex:X.ex=[]) {t:TE} (h:PE X e t):PE X e (DU t):=by
 intro pins s σ Hf Q I ⟨H,a,xs,e1,ha,q⟩
 subst e1
 obtain ⟨its,n,rv,hz,h0,hp,I'⟩:=Inv.untrack I ha hex
 refine thn (h _ s σ H _ I' q) fun u s' ⟨v,H',I2,r,q2⟩=>?_
 obtain ⟨ha',I3⟩:=Inv.retrack I2 rv hz h0 hp
 exact ⟨v,_,I3,r,q2 ha'⟩
theorem xo (hex:X.ex=[]) {t:TT} (h:PT X e t):PT X e (DV t):=by
 intro pins s σ Hf Q I ⟨H,a,xs,e1,ha,q⟩
 subst e1
 obtain ⟨its,n,rv,hz,h0,hp,I'⟩:=Inv.untrack I ha hex
 refine thn (h _ s σ H _ I' q) fun u s' ⟨H',I2,q2⟩=>?_
 obtain ⟨ha',I3⟩:=Inv.retrack I2 rv hz h0 hp
 exact ⟨_,I3,q2 ha'⟩
theorem xq (hex:X.ex=[]) {t:TA} (h:PA X es t):PA X es (DW t):=by
 intro pos pins s σ Hf Q I ⟨H,a,xs,e1,ha,q⟩
 subst e1
 obtain ⟨its,n,rv,hz,h0,hp,I'⟩:=Inv.untrack I ha hex
 refine thn (h pos _ s σ H _ I' q) fun u s' ⟨v,H',I2,r,q2⟩=>?_
 obtain ⟨ha',I3⟩:=Inv.retrack I2 rv hz h0 hp
 exact ⟨v,_,I3,r,q2 ha'⟩
theorem qr (hex:X.ex=[]) {tg:Expr} {t:TI} (h:PI X tg e t):PI X tg e (DX t):=by
 intro pins s σ Hf R I ⟨H,a,xs,e1,ha,q⟩
 subst e1
 obtain ⟨its,n,rv,hz,h0,hp,I'⟩:=Inv.untrack I ha hex
 refine thn (h _ s σ H _ I' q) fun u s1 hs1=>thn hs1 fun itv s2 ⟨it,fp,tn,J,H',e2,I2,T,t0,fpo,q2⟩=>?_
 obtain ⟨ha',I3⟩:=Inv.retrack I2 rv hz h0 hp
 refine ⟨it,fp,tn,J,_,e2,I3,T,t0,fun b hb=>?_,q2 ha'⟩
 obtain ⟨g0,g1,g2,g3,g4,g5⟩:=fpo b hb
 have hba:b≠a:=fun w=>g5 (a,xl its n) (s_ _ (s_ _ (by simp))) w.symm
 refine ⟨by rw [ao hba]; exact g0,g1,g2,g3,g4,fun p hp'=>g5 p ?_⟩
 rcases F_.mp hp' with w | w
 · exact Gp _ w
 · exact s_ _ (Gp _ w)
end
mutual
def imm:Dv→Bool
 | .non=>true
 | .bl _=>true
 | .int _=>true
 | .str _=>true
 | .tup ds=>imms ds
 | .lst _=>false
 | .scr _=>false
 | .exn _=>false
def imms:List Dv→Bool
 | []=>true
 | d :: ds=>imm d && imms ds
end
section
variable {K:ck} {H H':Hp}
mutual
theorem Rep.tups (k:∀ b ys,H b=some (.tup ys)→H' b=some (.tup ys)):∀ (d:Dv) (v:V),imm d=true→Rep K H d v→Rep K H' d v
 | .non,_,_,h=>h
 | .bl _,_,_,h=>h
 | .int _,_,_,h=>h
 | .str _,_,_,h=>h
 | .tup ds,v,i,h=>by
  obtain ⟨a,xs,r,h,q⟩:=h.tupE
  exact ⟨a,xs,r,k _ _ h,Reps.tups k ds xs (by simpa [imm] using i) q⟩
 | .lst _,_,i,_=>by simp [imm] at i
 | .scr _,_,i,_=>by simp [imm] at i
 | .exn _,_,i,_=>by simp [imm] at i
theorem Reps.tups (k:∀ b ys,H b=some (.tup ys)→H' b=some (.tup ys)):∀ (ds:List Dv) (vs:List V),imms ds=true→Reps K H ds vs→Reps K H' ds vs
 | [],_,_,h=>h
 | d :: ds,vs,i,h=>by
  obtain ⟨v,us,r,h,q⟩:∃ v us,vs=v :: us∧Rep K H d v∧Reps K H ds us:=h
  have i':imm d=true∧imms ds=true:=by simpa [imms] using i
  exact ⟨v,us,r,Rep.tups k d v i'.1 h,Reps.tups k ds us i'.2 q⟩
end
end
inductive Fo where
 | nx (ρ:Ev) (ds:List Dv)
 | rt (d:Dv)
abbrev dJ:=Ev→List Dv→Option Fo
def OutW (X:Cx) (i:Nat) (a:Addr) (H:Hp) (o:Option Fo) (D:mD):Prop:=match o with
 | none=>False
 | some (.rt d)=>∀ v H',Same H H'→Rep X.K H' d v→D.rt v H'
 | some (.nx ρ ds)=>∀ σ H' xs,Same H H'→H' a=none→σ[i]?=some (some (.ref a))→Envs X.K H' σ ρ→Reps X.K H' ds xs→D.nx σ (upd H' a (.lst xs))
theorem OutW.mono {X:Cx} {i:Nat} {a:Addr} {H H':Hp} {D:mD} (e:Same H H'):∀ {o:Option Fo},OutW X i a H o D→OutW X i a H' o D
 | none,h=>h
 | some (.rt _),h=>fun v H1 e1 r=>h v H1 (e.trans e1) r
 | some (.nx _ _),h=>fun σ H1 xs e1=>h σ H1 xs (e.trans e1)
def tO (X:Cx) (i:Nat) (f:dJ):TS:=fun D σ Hf=>∃ H a xs ρ ds,Hf=upd H a (.lst xs)∧H a=none∧σ[i]?=some (some (.ref a))∧Envs X.K H σ ρ∧Reps X.K H ds xs∧OutW X i a H (f ρ ds) D
structure FO1 (X:Cx) (i:Nat) (st:Stmt) (f:dJ):Prop where
 h:PS X st (tO X i f)
structure FOs (X:Cx) (i:Nat) (st:List Stmt) (f:dJ):Prop where
 h:PSs X st (tO X i f)
def pc {α:Type} (o:Option (Rs α)) (k:α→Option Fo):Option Fo:=match o with
 | some (.ok a)=>k a
 | _=>none
def qt:dJ:=fun ρ ds=>some (.nx ρ ds)
def cD (f g:dJ):dJ:=fun ρ ds=>match f ρ ds with
 | some (.nx ρ' ds')=>g ρ' ds'
 | o=>o
def cK (j:Nat) (f:FnE):dJ:=fun ρ ds=>pc (f ρ) fun d=>some (.nx (ρ.set j (some d)) ds)
def oIf (c:FnB) (f g:dJ):dJ:=fun ρ ds=>pc (c ρ) fun k=>if k then f ρ ds else g ρ ds
def ud (i:Nat) (c:FnB) (f g:dJ):dJ:=fun ρ ds=>pc (c (ρ.set i (some (.lst ds)))) fun k=>if k then f ρ ds else g ρ ds
def vI (i:Nat) (f:FnE):dJ:=fun ρ ds=>pc (f (ρ.set i (some (.lst ds)))) fun d=>some (.rt d)
def lI (f:FnE):dJ:=fun ρ ds=>if ds.length < 100000 then pc (f ρ) fun d=>some (.nx ρ (ds ++ [d])) else none
section
variable {X:Cx} {i:Nat} {st:Stmt} {sts:List Stmt} {f g:dJ} {fe:FnE} {gb:FnB} {e c:Expr} {pos:Pos}
theorem lJ {H Hf:Hp} {a:Addr} {xs:List V} (ha:H a=none) (e:Same (upd H a (.lst xs)) Hf):∃ H',Hf=upd H' a (.lst xs)∧H' a=none∧Same H H':=by
 refine ⟨fun b=>if b=a then none else Hf b,?_,by simp,fun b u q=>?_⟩
 · funext b
   by_cases hb:b=a
   · subst hb
     rw [am]
     exact e b _ am
   · rw [ao hb]
     simp [hb]
 · have hb:b≠a:=ar q ha
   simp only [hb,if_false]
   exact e b u (by rw [ao hb]; exact q)
theorem b5 {H:Hp} {a:Addr} {xs:List V} (ha:H a=none):Same H (upd H a (.lst xs)):=au ha _
theorem dq {H:Hp} {a:Addr} {xs:List V} {σ:L2.St} {ρ:Ev} {ds:List Dv} (ha:H a=none) (hi:σ[i]?=some (some (.ref a))) (E:Envs X.K H σ ρ) (r:Reps X.K H ds xs):Envs X.K (upd H a (.lst xs)) σ (ρ.set i (some (.lst ds))):=by
 have E':=E.mono (b5 (xs:=xs) ha)
 refine ⟨by rw [GQ]; exact E'.len,fun j d hj=>?_⟩
 by_cases hij:i=j
 · subst hij
   by_cases hl:i < ρ.length
   · rw [B_ hl] at hj
     cases hj
     exact ⟨.ref a,hi,a,xs,rfl,am,Reps.mono (b5 ha) _ _ r⟩
   · rw [GE (by rw [GQ]; omega)] at hj
     cases hj
 · rw [uk hij] at hj
   exact E'.at' j d hj
theorem xr:FOs X i [] qt:=⟨fun pins s σ Hf D I ⟨H,a,xs,ρ,ds,e1,ha,hi,E,r,o⟩=>by
 subst e1
 exact pq pins s σ _ D I (o σ H xs (.refl H) ha hi E r)⟩
theorem ue (h1:FO1 X i st f) (h2:FOs X i sts g):FOs X i (st :: sts) (cD f g):=⟨fun pins s σ Hf D I ⟨H,a,xs,ρ,ds,e1,ha,hi,E,r,o⟩=>by
 refine cR h1.h h2.h pins s σ Hf D I ⟨H,a,xs,ρ,ds,e1,ha,hi,E,r,?_⟩
 unfold cD at o
 match hf:f ρ ds with
 | none=>rw [hf] at o; exact o.elim
 | some (.rt d)=>rw [hf] at o; exact o
 | some (.nx ρ' ds')=>rw [hf] at o; exact fun σ' H' xs' e' ha' hi' E' r'=>⟨H',a,xs',ρ',ds',rfl,ha',hi',E',r',OutW.mono e' o⟩⟩
theorem xt (h1:FO1 X i st f):FOs X i [st] f:=⟨ls h1.h⟩
theorem Ax (hex:X.ex=[]) (j:Nat) (hij:i≠j) {x:Str} {pos':Pos} (hN:X.N.Nodup) (hi:X.N[j]?=some x) (hx:Loc X.env.scope x) (he:FE X e fe) (hs:GW e (some (.Name x pos')) pos.line X.env=pure false:=by kernel_rfl) (hf:X.fn x=true∨X.env.scope.names.lookup x=some .local:=by first | exact .inl rfl | exact .inr rfl | assumption) :
 FO1 X i (.Assign [.Name x pos'] e pos) (cK j fe):=⟨fun pins s σ Hf D I ⟨H,a,xs,ρ,ds,e1,ha,hia,E,r,o⟩=>by
 refine ip hN hi hx (xn hex he.h) hs hf pins s σ Hf D I ⟨H,a,xs,e1,ha,ρ,E,?_⟩
 unfold cK at o
 match hfe:fe ρ with
 | none=>rw [hfe] at o; exact o.elim
 | some (.exc _)=>rw [hfe] at o; exact o.elim
 | some (.ok d) =>
  rw [hfe] at o
  exact fun v H' e' rd ha'=>o _ H' xs e' ha' (by rw [uk (Im hij)]; exact hia) ((E.mono e').set rd) (Reps.mono e' _ _ r)⟩
theorem DY (hex:X.ex=[]) {as bs:List Stmt} (hc:FT X c gb) (ha:FOs X i as f) (hb:FOs X i bs g):FO1 X i (.If c as bs pos) (oIf gb f g):=⟨fun pins s σ Hf D I ⟨H,a,xs,ρ,ds,e1,ha',hia,E,r,o⟩=>by
 refine wq (xo hex hc.h) ha.h hb.h pins s σ Hf D I ⟨H,a,xs,e1,ha',ρ,E,?_⟩
 unfold oIf at o
 match hg:gb ρ with
 | none=>rw [hg] at o; exact o.elim
 | some (.exc _)=>rw [hg] at o; exact o.elim
 | some (.ok true)=>rw [hg] at o; exact fun H' e' h'=>vp ⟨H',a,xs,ρ,ds,rfl,h',hia,E.mono e',Reps.mono e' _ _ r,OutW.mono e' o⟩
 | some (.ok false)=>rw [hg] at o; exact fun H' e' h'=>vo ⟨H',a,xs,ρ,ds,rfl,h',hia,E.mono e',Reps.mono e' _ _ r,OutW.mono e' o⟩⟩
theorem Ay {as bs:List Stmt} (hc:FT X c gb) (ha:FOs X i as f) (hb:FOs X i bs g):FO1 X i (.If c as bs pos) (ud i gb f g):=⟨fun pins s σ Hf D I ⟨H,a,xs,ρ,ds,e1,ha',hia,E,r,o⟩=>by
 subst e1
 refine wq hc.h ha.h hb.h pins s σ _ D I ⟨_,dq ha' hia E r,?_⟩
 unfold ud at o
 match hg:gb (ρ.set i (some (.lst ds))) with
 | none=>rw [hg] at o; exact o.elim
 | some (.exc _)=>rw [hg] at o; exact o.elim
 | some (.ok true) =>
  rw [hg] at o
  intro H2 e2
  obtain ⟨H',q1,q2,q3⟩:=lJ ha' e2
  exact vp ⟨H',a,xs,ρ,ds,q1,q2,hia,E.mono q3,Reps.mono q3 _ _ r,OutW.mono q3 o⟩
 | some (.ok false) =>
  rw [hg] at o
  intro H2 e2
  obtain ⟨H',q1,q2,q3⟩:=lJ ha' e2
  exact vo ⟨H',a,xs,ρ,ds,q1,q2,hia,E.mono q3,Reps.mono q3 _ _ r,OutW.mono q3 o⟩⟩
theorem Az (he:FE X e fe):FO1 X i (.Return (some e) pos) (vI i fe):=⟨fun pins s σ Hf D I ⟨H,a,xs,ρ,ds,e1,ha',hia,E,r,o⟩=>by
 subst e1
 refine vg he.h pins s σ _ D I ⟨_,dq ha' hia E r,?_⟩
 unfold vI at o
 match hg:fe (ρ.set i (some (.lst ds))) with
 | none=>rw [hg] at o; exact o.elim
 | some (.exc _)=>rw [hg] at o; exact o.elim
 | some (.ok d)=>rw [hg] at o; exact fun v H2 e2 rd=>o v H2 ((b5 ha').trans e2) rd⟩
theorem AA (hex:X.ex=[]) {x:Str} {apos cpos:Pos} (hx:PE X (.Name x apos) (vf i)) (he:FE X e fe)
 (hbase:HV (.Name x apos) "append" X.env (eval (.Name x apos) X.env)=eval (.Name x apos) X.env:=by kernel_rfl)
 (hfew:((GA cpos (e_ [e] X.env)).all (fun x=>!x.1) && (Ii cpos (Hc [] X.env)).all (fun x=>x.1.isSome)
   && decide ([e].length + ([]:List Ia).length + (if ([]:List Ia).isEmpty then 0 else 1) < 30))=true:=by kernel_rfl)
 {ap:Pos} (hline:(ap.endLine == cpos.line)=true:=by kernel_rfl) (hs:e_ [e] X.env=(false,eval e X.env) :: e_ [] X.env:=by kernel_rfl) (hplain:(GA cpos (e_ [] X.env)).any (·.1)=false:=by kernel_rfl)
 (hsw:GW (.Call (.Attribute (.Name x apos) "append" ap) [e] [] cpos) none pos.line X.env=pure false:=by kernel_rfl) :
 FO1 X i (.Expr (.Call (.Attribute (.Name x apos) "append" ap) [e] [] cpos) pos) (lI fe):=⟨fun pins s σ Hf D I ⟨H,a,xs,ρ,ds,e1,ha',hia,E,r,o⟩=>by
 refine pr (sU Kl K7 PySem.F.type_list_append pM hx (xq hex (lD he pQ hs).h) hbase hfew hline hs hplain) hsw pins s σ Hf D I ?_
 unfold lI at o
 split at o
 · rename_i hl
   match hfe:fe ρ with
   | none=>rw [hfe] at o; exact o.elim
   | some (.exc _)=>rw [hfe] at o; exact o.elim
   | some (.ok d) =>
    rw [hfe] at o
    refine ⟨.ref a,hia,.inl ⟨rfl,xs,SqL.of (by rw [e1]; exact am)⟩,H,a,xs,e1,ha',ρ,E,?_⟩
    show OutA X H (aa fe ae ρ) _
    rw [aj hfe aG]
    intro vs H' e' rs ha2
    obtain ⟨v,rfl,rv⟩:=dg rs
    have hz:xs.length < sizeLine:=by
     have:=r.length
     have h2:=bg (n:=xs.length + 1) (by omega)
     omega
    refine ⟨a,xs,v,rfl,rfl,am,hz,?_⟩
    rw [wm]
    exact o σ H' (xs ++ [v]) e' ha2 hia (E.mono e') ((Reps.mono e' _ _ r).append ⟨v,[],rfl,rv,rfl⟩)
 · exact o.elim⟩
end
def sJ (i:Nat) (g:FnA) (f:dJ):FnS:=fun ρ=>c9 (g ρ) fun ds=>if ds.length≤100000 then (match f (ρ.set i none) ds with
 | some (.nx ρ' ds')=>some (.nx (ρ'.set i (some (.lst ds'))))
 | some (.rt d)=>some (.rt d)
 | none=>none) else none
section
variable {X:Cx} {i:Nat} {sts:List Stmt} {f:dJ} {g:FnA} {es:List Expr} {pos lp:Pos}
theorem xu {x:Str} {pos':Pos} (hN:X.N.Nodup) (hi:X.N[i]?=some x) (hx:Loc X.env.scope x) (hg:FA X es g) (hr:FOs X i sts f) (hs:GW (.List es lp) (some (.Name x pos')) pos.line X.env=pure false:=by kernel_rfl)
 (hf:X.fn x=true∨X.env.scope.names.lookup x=some .local:=by first | exact .inl rfl | exact .inr rfl | assumption):FSs X (.Assign [.Name x pos'] (.List es lp) pos :: sts) (sJ i g f):=⟨fun pins s σ H D I ⟨ρ,E,o⟩=>by
 refine cR (ip (i:=i) hN hi hx (vm hg.h) hs hf) hr.h pins s σ H D I ⟨ρ,E,?_⟩
 unfold sJ at o
 match hgr:g ρ with
 | none=>rw [hgr] at o; exact o.elim
 | some (.exc _)=>rw [hgr] at o; exact o
 | some (.ok ds) =>
  rw [hgr] at o
  intro vs H1 e1 rs
  have o2:OutS X H (if ds.length≤100000 then (match f (ρ.set i none) ds with
   | some (.nx ρ' ds')=>some (.nx (ρ'.set i (some (.lst ds'))))
   | some (.rt d)=>some (.rt d)
   | none=>none) else none) D:=o
  by_cases hl:ds.length≤100000
  · rw [if_pos hl] at o2
    refine ⟨by rw [rs.length]; exact bg hl,fun p hp=>?_⟩
    have hil:i < σ.length:=by rw [I.len]; exact (xy.mp hi).1
    refine ⟨H1,p,vs,ρ.set i none,ds,rfl,hp,B_ hil,?_,rs,?_⟩
    · have E1:=(E.mono e1).fgt1 i
      refine ⟨by rw [GQ]; exact E1.len,fun j d hj=>?_⟩
      by_cases hij:i=j
      · subst hij
        by_cases hl2:i < ρ.length
        · rw [B_ hl2] at hj; cases hj
        · rw [GE (by rw [GQ]; omega)] at hj; cases hj
      · obtain ⟨v,q1,q2⟩:=E1.at' j d hj
        exact ⟨v,by rw [uk hij]; exact q1,q2⟩
    · match hfr:f (ρ.set i none) ds with
      | none=>rw [hfr] at o2; exact o2.elim
      | some (.rt d)=>rw [hfr] at o2; exact fun v H' e' r'=>o2 v H' (e1.trans e') r'
      | some (.nx ρ' ds') =>
       rw [hfr] at o2
       exact fun σ' H' xs' e' ha' hi' E' r'=>o2 σ' _ ((e1.trans e').trans (b5 ha')) (dq ha' hi' E' r')
  · rw [if_neg hl] at o2
    exact o2.elim⟩
end
def eN (j:Nat) (js:List Nat) (body:dJ):List Dv→Ev→List Dv→Option Fo
 | [],ρ,xs=>some (.nx (fgt js ρ) xs)
 | d :: ds,ρ,xs=>match body ((fgt js ρ).set j (some d)) xs with
  | some (.nx ρ' xs')=>eN j js body ds ρ' xs'
  | o=>o
def m8 (j:Nat) (js:List Nat) (src:FnA) (body:dJ):dJ:=fun ρ xs=>pc (src ρ) fun ds=>if imms ds=true then eN j js body ds ρ xs else none
theorem eQ:∀ {ds:List Dv} {n:Nat} {d:Dv},imms ds=true→ds[n]?=some d→imm d=true
 | [],_,_,_,h=>by simp at h
 | e :: ds,0,d,i,h=>by
  have i':imm e=true∧imms ds=true:=by simpa [imms] using i
  cases (show some e=some d from h)
  exact i'.1
 | e :: ds,n + 1,d,i,h=>by
  have i':imm e=true∧imms ds=true:=by simpa [imms] using i
  exact eQ i'.2 (show ds[n]?=some d from h)
theorem gf {K:ck} {H:Hp} {a:Addr} {xs:List V} {d:Dv} {v:V} (i:imm d=true) (r:Rep K (upd H a (.lst xs)) d v):Rep K H d v :=
 Rep.tups (fun b ys q=>by
  by_cases hb:b=a
  · rw [hb,am] at q; cases q
  · rw [ao hb] at q; exact q) d v i r
theorem AB {X:Cx} {i:Nat} {tg iter:Expr} {body:List Stmt} {pos:Pos} {src:FnA} {fb:dJ} (hex:X.ex=[]) (j:Nat) (js:List Nat) (hij:i≠j) (hp:Kk (pi X.prog X.w) X.A X.env X.xe) (hc:X.calm=true) (hi:FI X tg iter src) (hg:PG X tg (pv j)) (hb:FOs X i body fb)
 (hs:∀ x,Gs iter X.env x=pure x:=by intro _; kernel_rfl):FO1 X i (.For tg iter body [] pos) (m8 j js src fb):=⟨fun pins s σ Hf D I ⟨H,a,xs,ρ,ds,e1,ha,hia,E,r,o⟩=>by
 refine mF hp hc (qr hex hi.h) hg hb.h hs pins s σ Hf D I ⟨H,a,xs,e1,ha,ρ,E,?_⟩
 unfold m8 at o
 match hf:src ρ with
 | none=>rw [hf] at o; exact o.elim
 | some (.exc _)=>rw [hf] at o; exact o.elim
 | some (.ok us) =>
  rw [hf] at o
  have o0:OutW X i a H (if imms us=true then eN j js fb us ρ ds else none) D:=o
  by_cases him:imms us=true
  · rw [if_pos him] at o0
    intro J H1 e1 wk ha1
    have o1:=OutW.mono e1 o0
    refine ⟨fun n m σ' Hf'=>m=us.length - n∧n≤us.length∧∃ H' xs' ρ' ds',Hf'=upd H' a (.lst xs')∧H' a=none∧Same H1 H'∧σ'[i]?=some (some (.ref a))∧Envs X.K H' σ' ρ'∧Reps X.K H' ds' xs'∧OutW X i a H' (eN j js fb (us.drop n) ρ' ds') D,
     ⟨us.length,by simp,GI _,H1,xs,ρ,ds,rfl,ha1,.refl H1,hia,E.mono e1,Reps.mono e1 _ _ r,by simpa using o1⟩,?_⟩
    rintro n m σ' Hf' ⟨rfl,hn,H',xs',ρ',ds',rfl,ha',e2,hia',E',r',o'⟩
    have e2f:Same H1 (upd H' a (.lst xs')):=e2.trans (b5 ha')
    by_cases hlt:n < us.length
    · refine .inr ⟨wk.go n _ e2f hlt,fun σ2 Hf2=>∃ H2 xs2 ρ2 ds2,Hf2=upd H2 a (.lst xs2)∧H2 a=none∧Same H1 H2∧σ2[i]?=some (some (.ref a))∧Envs X.K H2 σ2 ρ2∧Reps X.K H2 ds2 xs2∧OutW X i a H2 (eN j js fb (us.drop (n + 1)) ρ2 ds2) D,
       fun σ2 Hf2 q=>⟨us.length - (n + 1),by omega,rfl,hlt,q⟩,fun x H2 y=>?_⟩
      obtain ⟨rfl,d,hd,rd⟩:=wk.yld n _ x H2 e2f hlt y
      have rd':=gf (eQ him hd) rd
      rw [dc hd] at o'
      show tO X i fb _ _ _
      refine ⟨H',a,xs',(fgt js ρ').set j (some d),ds',rfl,ha',by rw [uk (Im hij)]; exact hia',(Envs.fgt js E').set rd',r',?_⟩
      unfold eN at o'
      match hb':fb ((fgt js ρ').set j (some d)) ds' with
      | none=>rw [hb'] at o'; exact o'
      | some (.rt r)=>rw [hb'] at o'; exact o'
      | some (.nx ρ2 ds2)=>rw [hb'] at o'; exact fun σ2 H3 xs3 e3 h3 hi3 E3 r3=>⟨H3,xs3,ρ2,ds2,rfl,h3,e2.trans e3,hi3,E3,r3,OutW.mono e3 o'⟩
    · have hn':n=us.length:=by omega
      subst hn'
      rw [JK] at o'
      exact .inl ⟨wk.stop _ e2f,o' σ' H' xs' (.refl H') ha' hia' (Envs.fgt js E') r'⟩
  · rw [if_neg him] at o0
    exact o0.elim⟩
end FD
namespace FD
open PySem PySem.Spec PyProof.Rows L2 PySem.W
def qu:Dv→Bool
 | .bl _=>true
 | .int _=>true
 | _=>false
theorem xx (K:ck) (d:Dv):IP K (.type (tyD d)) (.type "int")=some (qu d):=by cases d <;> kernel_rfl
theorem AC:Hk (a_ "int")=some (.type "int"):=by kernel_rfl
def AD:List Dv→Option (Rs Dv)
 | [.int i]=>if i.natAbs.log2 < 1920 then some (.ok (.str (toString i))) else none
 | _=>none
section
variable {X:Cx} {p pos:Pos} {e:Expr} {es:List Expr} {ga:FnA}
theorem xz (hg:Gl X "str") (hm:X.mg "str"=none) (ha:FA X (e :: es) ga) (he:e_ (e :: es) X.env=(false,eval e X.env) :: e_ es X.env:=by kernel_rfl) (hpl:(GA pos (e_ es X.env)).any (·.1)=false:=by kernel_rfl):FE X (.Call (.Name "str" p) (e :: es) [] pos) (fB1 AD ga) :=
 bO (jV jO hg hm (by decide +kernel) ha.h (by decide) (by decide) he hpl) fun σ H Q ρ E o=>⟨ρ,E,OutA.bind o fun ds vs H1 e1 rs o1=>by
  unfold AD at o1
  split at o1
  · rename_i i
    split at o1
    · rename_i hz
      obtain ⟨v,rfl,r⟩:=dg rs
      cases (show v=.int i from r)
      exact ⟨i,rfl,hz,o1 _ H1 (.refl H1) rfl⟩
    · exact o1.elim
  · exact o1.elim⟩
end
def leX:Dv→Dv→Option (Rs Dv)
 | .int i,.int j=>some (.ok (.bl (decide (i≤j))))
 | .str x,.str y=>some (.ok (.bl (!decide (y.cps.toList < x.cps.toList))))
 | _,_=>none
def Fq:R2:=fun x y H Q=>rI0 (fun i j=>.bl (decide (i≤j))) x y H Q∨∃ i j,x=.str i∧y=.str j∧Q (.bl (!decide (j.cps.toList < i.cps.toList))) H
section
variable {X:Cx}
theorem qv:OpR X (Gx .LtE) (fun x y H Q=>∃ i j,x=.str i∧y=.str j∧Q (.bl (!decide (j.cps.toList < i.cps.toList))) H):=by
 intro pins s σ H x y v u Q I rx ry h
 obtain ⟨i,j,rfl,rfl,q⟩:=h
 obtain ⟨t,rfl⟩:=rx
 obtain ⟨t',rfl⟩:=ry
 exact PySem.P.le_str ⟨.bl _,H,I,rfl,q⟩
theorem DZ:OpR X (Gx .LtE) Fq:=op_le.or qv
theorem D4:GOp X Fq leX:=by
 intro dx dy x y H Q rx ry o
 cases dx <;> cases dy <;> try exact (show False from o).elim
 · rename_i i j
   exact .inl ⟨i,j,rx,ry,o _ H (.refl H) rfl⟩
 · rename_i i j
   exact .inr ⟨i,j,rx,ry,o _ H (.refl H) rfl⟩
end
def D6 (K:ck) (S:List Nat) (Cs:List Addr) (CJ:Addr):Bool:=excIn K CJ bmV "ValueError.__new__" && S.all fun c=>excIn K (Cs.getD c 0) bmV "ValueError.__new__" && xiB K (Cs.getD c 0) && mroIn K (Cs.getD c 0) (.ref CJ) == some true && mroIn K (Cs.getD c 0) (.ref (Cs.getD c 0)) == some true &&
 kitOne K (.ref (Cs.getD c 0)) (.type "ValueError") == some true && S.all fun d=>kitOne K (.ref (Cs.getD c 0)) (.ref (Cs.getD d 0)) == some (c == d)
structure XAllS (K:ck) (S:List Nat) (cls:Nat→Addr) (CJ:Addr):Prop where
 at_:∀ c∈S,nsIn K w_ (xnm c)=some (some (.ref (cls c)))∧excIn K (cls c) bmV "ValueError.__new__"=true∧XI K (cls c)∧mroIn K (cls c) (.ref CJ)=some true∧mroIn K (cls c) (.ref (cls c))=some true∧kitOne K (.ref (cls c)) (.type "ValueError")=some true∧∀ d∈S,kitOne K (.ref (cls c)) (.ref (cls d))=some (c == d)
 exJ:excIn K CJ bmV "ValueError.__new__"=true
theorem uf {K:ck} {S:List Nat} {Cs:List Addr} {CJ:Addr} (hn:∀ c∈S,nsIn K w_ (xnm c)=some (some (.ref (Cs.getD c 0)))) (h:D6 K S Cs CJ=true):XAllS K S (fun c=>Cs.getD c 0) CJ:=by
 unfold D6 at h
 rw [g_] at h
 refine ⟨fun c hc=>?_,h.1⟩
 have h1:=Gv.mp h.2 c hc
 simp only [g_,beq_iff_eq] at h1
 exact ⟨hn c hc,h1.1.1.1.1.1,DR h1.1.1.1.1.2,h1.1.1.1.2,h1.1.1.2,h1.1.2,fun d hd=>by
  have h2:=Gv.mp h1.2 d hd
  simpa using h2⟩
section
variable {K:ck} {S:List Nat} {cls:Nat→Addr} {CJ:Addr} (x:XAllS K S cls CJ)
include x
theorem XAllS.xc (c:Nat) (h:c∈S):XC K c (cls c):=⟨(x.at_ c h).1,(x.at_ c h).2.1⟩
theorem XAllS.same {c:Nat} {C:Addr} (h:c∈S) (q:nsIn K w_ (xnm c)=some (some (.ref C))):C=cls c:=by
 have z:=(x.at_ c h).1
 rw [q] at z
 cases z
 rfl
theorem XAllS.xtO (d:Nat) (hd:d∈S):XT K (fun c=>if S.contains c then some (c == d) else none) (.ref (cls d)):=fun c b hb C q=>by
 dsimp only at hb
 split at hb
 · rename_i h
   have h':c∈S:=by simpa using h
   cases hb
   rw [x.same h' q]
   exact ⟨(x.at_ c h').2.2.1,(x.at_ c h').2.2.2.2.2.2 d hd⟩
 · cases hb
theorem XAllS.xtV:XT K (fun c=>if S.contains c then some true else none) (.type "ValueError"):=fun c b hb C q=>by
 dsimp only at hb
 split at hb
 · rename_i h
   have h':c∈S:=by simpa using h
   cases hb
   rw [x.same h' q]
   exact ⟨(x.at_ c h').2.2.1,(x.at_ c h').2.2.2.2.2.1⟩
 · cases hb
end
section
variable {X:Cx} {ex hx:Expr} {f g:FnE} {J:Str} {CJ:Addr} {np rp rp2 hpos pos:Pos}
end
end FD
namespace ST
open PySem PySem.SetTable
def stp (m i:Nat):Nat:=(i * 5 + 1) % (m + 1)
def it (m:Nat):Nat→Nat→Nat
 | 0,i=>i
 | k + 1,i=>it m k (stp m i)
def oE (m:Nat):Bool:=(h_ (m + 1)).all fun i=>(h_ (m + 1)).all fun j=>(h_ (m + 1)).any fun k=>it m k i == j
theorem Ga:oE 7=true:=by decide +kernel
theorem D7:oE 31=true:=by decide +kernel
theorem AE {m:Nat} (h:oE m=true) {i j:Nat} (hi:i≤m) (hj:j≤m):∃ k,k≤m∧it m k i=j:=by
 unfold oE at h
 have h1:=Gv.mp h i (Gy.mpr (by omega))
 have h2:=Gv.mp h1 j (Gy.mpr (by omega))
 obtain ⟨k,hk,e⟩:=Mu.mp h2
 exact ⟨k,by have:=Gy.mp hk; omega,by simpa using e⟩
def lp (m:Nat):Nat→Nat×Nat→Nat×Nat
 | 0,x=>x
 | r + 1,x=>lp m r (leap m x.1 x.2)
theorem qw (m:Nat):∀ (a b:Nat) (x:Nat×Nat),lp m (a + b) x=lp m b (lp m a x)
 | 0,b,x=>by rw [Jc]; rfl
 | a + 1,b,x=>by
  rw [N7]
  show lp m (a + b) (leap m x.1 x.2)=lp m b (lp m a (leap m x.1 x.2))
  exact qw m a b _
theorem xA (m:Nat):∀ (r:Nat) (x:Nat×Nat),x.1≤m→(lp m r x).1≤m
 | 0,x,h=>h
 | r + 1,x,h=>xA m r _ (by
  show (x.1 * 5 + 1 + x.2 / 32) % (m + 1)≤m
  exact HK (Ke _ (Jd m)))
theorem AF (m:Nat):∀ (r:Nat) (x:Nat×Nat),(lp m r x).2=x.2 / 32 ^ r
 | 0,x=>by simp [lp]
 | r + 1,x=>by
  show (lp m r (leap m x.1 x.2)).2=_
  rw [AF m r]
  show x.2 / 32 / 32 ^ r=_
  rw [Nat.div_div_eq_div_mul,Nat.pow_succ,N8]
theorem qz (m:Nat):∀ (r:Nat) (i:Nat),(lp m r (i,0)).1=it m r i
 | 0,i=>rfl
 | r + 1,i=>by
  show (lp m r (leap m i 0)).1=it m r (stp m i)
  have e:leap m i 0=(stp m i,0):=by unfold leap stp; simp
  rw [e]
  exact qz m r _
theorem qA {m:Nat} (c:oE m=true) {i pt j:Nat} (hi:i≤m) (hp:pt < 2 ^ 64) (hj:j≤m):∃ r,r≤13 + m∧(lp m r (i,pt)).1=j:=by
 have h0:(lp m 13 (i,pt)).2=0:=by
  rw [AF]
  exact Nat.div_eq_of_lt (by
   show pt < 32 ^ 13; have:(32:Nat) ^ 13=2 ^ 65:=by decide
   omega)
 obtain ⟨k,hk,e⟩:=AE c (xA m 13 (i,pt) hi) hj
 refine ⟨13 + k,by omega,?_⟩
 rw [qw]
 have e2:lp m 13 (i,pt)=((lp m 13 (i,pt)).1,0):=by rw [← h0]
 rw [e2,qz]
 exact e
def advN (t:SetTable):Nat→Probe→Probe
 | 0,p=>p
 | n + 1,p=>advN t n (t.advance p)
theorem bN (t:SetTable):∀ (a b:Nat) (p:Probe),advN t (a + b) p=advN t b (advN t a p)
 | 0,b,p=>by rw [Jc]; rfl
 | a + 1,b,p=>by
  rw [N7]
  exact bN t a b _
structure Vp (t:SetTable) (p:Probe):Prop where
 i:p.i≤t.mask
 pt:p.perturb < 2 ^ 64
 more:p.more≤9
 dm:p.dummy=none
theorem gI (m i:Nat):KW m i - i≤9:=by unfold KW; split <;> omega
def iF (t:SetTable) (p:Probe):Probe:={ p with j:=(leap t.mask p.i p.perturb).1,more:=KW t.mask (leap t.mask p.i p.perturb).1 - (leap t.mask p.i p.perturb).1,i:=(leap t.mask p.i p.perturb).1,perturb:=(leap t.mask p.i p.perturb).2 }
theorem jr (t:SetTable) (p:Probe) (h:p.more=0):t.advance p=iF t p:=by
 unfold Ol iF
 rw [if_neg (by omega)]
theorem jt (t:SetTable) (p:Probe) (h:0 < p.more):t.advance p={ p with j:=p.j + 1,more:=p.more - 1 }:=by
 unfold Ol
 rw [if_pos h]
theorem gJ (t:SetTable):∀ (k:Nat) (p:Probe),p.more=k→advN t (k + 1) p=iF t p
 | 0,p,h=>jr t p h
 | k + 1,p,h=>by
  show advN t (k + 1) (t.advance p)=_
  rw [jt t p (by omega),gJ t k _ (by show p.more - 1=k; omega)]
  rfl
theorem qB (m i pt:Nat) (h:pt < 2 ^ 64):(leap m i pt).2 < 2 ^ 64:=NP (Nat.div_le_self _ _) h
theorem Vp.leap {t:SetTable} {p:Probe} (v:Vp t p):Vp t (iF t p):=⟨by
 show (p.i * 5 + 1 + p.perturb / 32) % (t.mask + 1)≤t.mask
 exact HK (Ke _ (Jd t.mask)),(show (Ji t.mask p.i p.perturb).2 < 2 ^ 64 from qB _ _ _ v.pt),(show KW t.mask (Ji t.mask p.i p.perturb).1 - (Ji t.mask p.i p.perturb).1≤9 from gI _ _),v.dm⟩
theorem Vp.adv {t:SetTable} {p:Probe} (v:Vp t p):Vp t (t.advance p):=by
 by_cases h:0 < p.more
 · rw [jt t p h]; exact ⟨v.i,v.pt,by show p.more - 1≤9; have:=v.more; omega,v.dm⟩
 · rw [jr t p (by omega)]; exact v.leap
theorem Vp.advN {t:SetTable}:∀ (n:Nat) {p:Probe},Vp t p→Vp t (advN t n p)
 | 0,p,v=>v
 | n + 1,p,v=>Vp.advN n v.adv
theorem ng (t:SetTable):∀ (r:Nat) (p:Probe),Vp t p→∃ n,n≤10 * r∧(advN t n p).i=(lp t.mask r (p.i,p.perturb)).1∧(r≠0→(advN t n p).j=(advN t n p).i)
 | 0,p,v=>⟨0,by omega,rfl,fun h=>absurd rfl h⟩
 | r + 1,p,v=>by
  obtain ⟨n,h1,h2,h3⟩:=ng t r (iF t p) v.leap
  refine ⟨p.more + 1 + n,by have:=v.more; omega,?_,fun _=>?_⟩
  · rw [bN,gJ t p.more p rfl,h2]; rfl
  · rw [bN,gJ t p.more p rfl]
    by_cases hr:r=0
    · subst hr
      have hn:n=0:=by omega
      subst hn
      rfl
    · exact h3 hr
structure Tb (t:SetTable) (n:Nat):Prop where
 size:t.place.size=n
 dm:t.dummies=#[]
 cyc:oE t.mask=true
 room:n≤t.mask
theorem qC (j:Nat):has #[] j=false:=by unfold has; simp
theorem dF {t:SetTable} {n:Nat} (T:Tb t n) (j:Nat):t.slot j=.empty∨∃ i,t.slot j=.live i∧t.place[i]?=some j:=by
 unfold O2
 dsimp only
 split
 · rename_i h
   exact .inr ⟨_,rfl,by simpa using h⟩
 · rw [T.dm,qC]
   exact .inl rfl
theorem qD:∀ (m:Nat) (l:List Nat),l.length≤m→∃ j,j≤m∧j ∉ l
 | 0,l,h=>⟨0,l_ _,by
  have:l=[]:=IT.mp (by omega)
  simp [this]⟩
 | m + 1,l,h=>by
  by_cases hm:(m + 1)∈l
  · obtain ⟨j,hj,hn⟩:=qD m (l.erase (m + 1)) (by rw [List.length_erase_of_mem hm]; omega)
    refine ⟨j,by omega,fun hl=>hn ?_⟩
    exact (List.mem_erase_of_ne (by omega)).mpr hl
  · exact ⟨m + 1,l_ _,hm⟩
theorem ug {t:SetTable} {n:Nat} (T:Tb t n):∃ j,j≤t.mask∧t.slot j=.empty:=by
 obtain ⟨j,hj,hn⟩:=qD t.mask t.place.toList (by simp [T.size,T.room])
 refine ⟨j,hj,?_⟩
 rcases dF T j with h | ⟨i,h,e⟩
 · exact h
 · exact absurd (GU.mpr (KR e)) hn
theorem D8 {t:SetTable} {n:Nat} (T:Tb t n) {p:Probe} (v:Vp t p):∃ N,N < 10 * K5 t.mask∧t.slot (advN t N p).j=.empty:=by
 obtain ⟨j,hj,he⟩:=ug T
 obtain ⟨r,hr,e⟩:=qA T.cyc (xA t.mask 1 (p.i,p.perturb) v.i) (by
  show (leap t.mask p.i p.perturb).2 < 2 ^ 64
  exact qB _ _ _ v.pt) hj (pt:=(lp t.mask 1 (p.i,p.perturb)).2)
 obtain ⟨N,h1,h2,h3⟩:=ng t (1 + r) p v
 refine ⟨N,by unfold K5; omega,?_⟩
 rw [h3 (by omega),h2,qw]
 rw [show lp t.mask 1 (p.i,p.perturb)=((lp t.mask 1 (p.i,p.perturb)).1,(lp t.mask 1 (p.i,p.perturb)).2) from rfl,e]
 exact he
theorem first {P:Nat→Prop} [DecidablePred P]:∀ (b:Nat),(∃ n,n < b∧P n)→∃ n,n < b∧P n∧∀ k,k < n→¬ P k
 | 0,⟨n,h,_⟩=>absurd h (Ie _)
 | b + 1,⟨n,h,hp⟩=>by
  by_cases q:∃ n,n < b∧P n
  · obtain ⟨n,h1,h2,h3⟩:=first b q
    exact ⟨n,by omega,h2,h3⟩
  · have hn:n=b:=by
     have:¬ n < b:=fun z=>q ⟨n,z,hp⟩
     omega
    subst hn
    exact ⟨n,by omega,hp,fun k hk z=>q ⟨k,hk,z⟩⟩
theorem AG {t:SetTable} {n:Nat} (T:Tb t n) {p:Probe} (v:Vp t p):∃ N,N < 10 * K5 t.mask∧t.slot (advN t N p).j=.empty∧∀ k,k < N→t.slot (advN t k p).j≠.empty :=
 first (P:=fun n=>t.slot (advN t n p).j=.empty) _ (D8 T v)
theorem vJ {t:SetTable} {n:Nat} (T:Tb t n) (hashAt:Nat→Int) (h:Int):∀ (N fuel:Nat) (p:Probe),Vp t p→N < fuel→t.slot (advN t N p).j=.empty→(∀ k,k < N→t.slot (advN t k p).j≠.empty) →
 Jw t hashAt h fuel p=some (.empty (advN t N p).j none)∨∃ m i,m < N∧t.slot (advN t m p).j=.live i∧t.place[i]?=some (advN t m p).j∧hashAt i=h∧Jw t hashAt h fuel p=some (.candidate (advN t m p).j i (advN t (m + 1) p))
 | N,0,p,v,hf,_,_=>absurd hf (Ie _)
 | 0,fuel + 1,p,v,hf,he,_=>by
  refine .inl ?_
  unfold Jw
  rw [show t.slot p.j=.empty from he]
  show some (Met.empty p.j p.dummy)=_
  rw [v.dm]
  rfl
 | N + 1,fuel + 1,p,v,hf,he,hn=>by
  rcases dF T p.j with h0 | ⟨i,h1,h2⟩
  · exact absurd h0 (hn 0 (by omega))
  · by_cases hh:hashAt i=h
    · refine .inr ⟨0,i,by omega,h1,h2,hh,?_⟩
      unfold Jw
      rw [h1]
      dsimp only
      rw [if_pos (by simpa using hh)]
      rfl
    · have hg:Jw t hashAt h (fuel + 1) p=Jw t hashAt h fuel (t.advance p):=by
       conv=>lhs; unfold Jw
       rw [h1]
       dsimp only
       rw [if_neg (by simpa using hh)]
      rcases vJ T hashAt h N fuel (t.advance p) v.adv (by omega) he (fun k hk=>hn (k + 1) (by omega)) with q | ⟨m,i',q1,q2,q3,q4,q5⟩
      · exact .inl (by rw [hg,q]; rfl)
      · exact .inr ⟨m + 1,i',by omega,q2,q3,q4,by rw [hg,q5]; rfl⟩
theorem lK {t:SetTable} (h:Int):Vp t (t.probeStart h):=⟨by
 show bits h % (t.mask + 1)≤t.mask
 exact HK (Ke _ (Jd t.mask)),by
 show bits h < 2 ^ 64
 unfold bits
 have h1:=Iy h (show (2 ^ 64:Int)≠0 by decide)
 have h2:=Hz h (show (0:Int) < 2 ^ 64 by decide)
 omega,gI _ _,rfl⟩
theorem ki {m:Nat} {owner:Array (Option Nat)}:∀ (fuel i pt:Nat),i≤m→(∃ r,r < fuel∧(owner.getD (lp m r (i,pt)).1 (some 0)).isNone=true)→∃ j,HF m owner fuel i pt=some j∧(owner.getD j (some 0)).isNone=true
 | 0,i,pt,_,⟨r,h,_⟩=>absurd h (Ie _)
 | fuel + 1,i,pt,hi,⟨r,h,e⟩=>by
  unfold HF
  split
  · rename_i k hk
    exact ⟨i + k,rfl,by simpa using MS hk⟩
  · rename_i hk
    cases r with
    | zero =>
     have hm:0∈h_ (KW m i + 1 - i):=Gy.mpr (by unfold KW; split <;> omega)
     have:=Kf.mp hk 0 hm
     exact absurd (show (owner.getD (i + 0) (some 0)).isNone=true from e) this
    | succ r =>
     exact ki fuel _ _ (by
      show (i * 5 + 1 + pt / 32) % (m + 1)≤m
      exact HK (Ke _ (Jd m))) ⟨r,by omega,e⟩
theorem vK:∀ (l:List (Option Nat)) (j k:Nat),l[j]?=some none→((l.set j (some k)).filterMap id).Perm (k :: l.filterMap id)
 | [],j,k,h=>by simp at h
 | x :: l,0,k,h=>by
  have:x=none:=by simpa using h
  subst this
  simp
 | x :: l,j + 1,k,h=>by
  have ih:=vK l j k (by simpa using h)
  cases x with
  | none=>simpa using ih
  | some y =>
   show List.Perm (y :: (l.set j (some k)).filterMap id) (k :: y :: l.filterMap id)
   exact (ih.cons y).trans (OY ..)
theorem qE:∀ (l:List (Option Nat)),(l.filterMap id).length < l.length→∃ j,j < l.length∧l[j]?=some none
 | [],h=>by simp at h
 | none :: l,h=>⟨0,by simp,rfl⟩
 | some y :: l,h=>by
  obtain ⟨j,h1,h2⟩:=qE l (by simpa using h)
  exact ⟨j + 1,by simpa using h1,by simpa using h2⟩
def kj (m:Nat) (acc:Option (Array (Option Nat)×Nat)) (h:Int):Option (Array (Option Nat)×Nat):=do
 let (owner,k) ← acc
 let j ← HF m owner (K5 m) (bits h % (m + 1)) (bits h)
 pure (owner.setIfInBounds j (some k),k + 1)
theorem xB (h:Int):bits h < 2 ^ 64:=by
 unfold bits
 have h1:=Iy h (show (2 ^ 64:Int)≠0 by decide)
 have h2:=Hz h (show (0:Int) < 2 ^ 64 by decide)
 omega
theorem getD_none {owner:Array (Option Nat)} {j:Nat} (h:(owner.getD j (some 0)).isNone=true):j < owner.size∧owner.toList[j]?=some none:=by
 rw [GX] at h
 cases q:owner[j]? with
 | none=>rw [q] at h; simp at h
 | some x =>
  rw [q] at h
  have hx:x=none:=by simpa using h
  subst hx
  refine ⟨(GR.mp q).1,by rw [Hu]; exact q⟩
theorem qF {m:Nat} (c:oE m=true):∀ (hs:List Int) (owner:Array (Option Nat)) (k:Nat),owner.size=m + 1→(owner.toList.filterMap id).Perm (h_ k)→k + hs.length≤m →
 ∃ o2,hs.foldl (kj m) (some (owner,k))=some (o2,k + hs.length)∧o2.size=m + 1∧(o2.toList.filterMap id).Perm (h_ (k + hs.length))
 | [],owner,k,h1,h2,h3=>⟨owner,rfl,h1,h2⟩
 | h :: hs,owner,k,h1,h2,h3=>by
  have hk:k + (hs.length + 1)≤m:=by simpa using h3
  obtain ⟨j0,a1,a2⟩:=qE owner.toList (by rw [h2.length_eq,KI]; simp only [G0,h1]; omega)
  have hj0:j0≤m:=by simp only [G0,h1] at a1; omega
  obtain ⟨r,b1,b2⟩:=qA c (i:=bits h % (m + 1)) (pt:=bits h) (HK (Ke _ (Jd m))) (xB h) hj0
  obtain ⟨j,f1,f2⟩:=ki (m:=m) (owner:=owner) (K5 m) (bits h % (m + 1)) (bits h) (HK (Ke _ (Jd m))) ⟨r,by unfold K5; omega,by
   rw [b2,GX]
   rw [Hu] at a2
   rw [a2]; rfl⟩
  obtain ⟨g1,g2⟩:=getD_none f2
  have e:kj m (some (owner,k)) h=some (owner.setIfInBounds j (some k),k + 1):=by
   show (HF m owner (K5 m) (bits h % (m + 1)) (bits h)).bind (fun j=>some (owner.setIfInBounds j (some k),k + 1))=_
   rw [f1]; rfl
  rw [Ix,e]
  obtain ⟨o2,c1,c2,c3⟩:=qF c hs (owner.setIfInBounds j (some k)) (k + 1) (by rw [L_]; exact h1) (by
   rw [Array.toList_setIfInBounds]
   refine (vK _ _ _ g2).trans ((h2.cons k).trans ?_)
   rw [OD]
   exact (List.perm_append_singleton k (h_ k)).symm) (by omega)
  refine ⟨o2,?_,c2,?_⟩
  · rw [c1]; simp only [Gu]; congr 2; omega
  · simp only [Gu]; rw [show k + (hs.length + 1)=k + 1 + hs.length by omega]; exact c3
theorem gK {m:Nat} (c:oE m=true) (hs:Array Int) (hl:hs.size≤m):∃ o2,OS m hs=some o2∧o2.size=m + 1∧(o2.toList.filterMap id).Perm (h_ hs.size):=by
 obtain ⟨o2,c1,c2,c3⟩:=qF c hs.toList (Iz (m + 1) none) 0 (by simp) (by simp [List.filterMap_replicate]) (by simpa using hl)
 refine ⟨o2,?_,c2,by simpa using c3⟩
 unfold OS
 rw [← NT]
 have e:(ML (fun acc h=>do
  let (owner,k) ← acc
  let j ← HF m owner (K5 m) (bits h % (m + 1)) (bits h)
  pure (owner.setIfInBounds j (some k),k + 1)) (some (Iz (m + 1) none,0)) hs.toList:Option (Array (Option Nat)×Nat))=hs.toList.foldl (kj m) (some (Iz (m + 1) none,0)):=rfl
 rw [e,c1]
 rfl
theorem nh:∀ (l:List (Option Nat)) (base:Nat),((h_ l.length).filterMap fun j=>(l.getD j none).map (fun x=>(base + j,x))).map (·.2)=l.filterMap id
 | [],base=>rfl
 | x :: l,base=>by
  rw [Gu,MK,IM,LH]
  have ih:=nh l (base + 1)
  have e:(h_ l.length).filterMap ((fun j=>((x :: l).getD j none).map (fun x=>(base + j,x))) ∘ Nat.succ)=(h_ l.length).filterMap fun j=>(l.getD j none).map (fun x=>(base + 1 + j,x)):=by
   congr 1
   funext j
   show ((x :: l).getD (j + 1) none).map _=_
   simp only [List.getD_cons_succ]
   rw [show base + (j + 1)=base + 1 + j by omega]
  rw [e]
  cases x with
  | none=>simpa using ih
  | some y =>
   simp only [List.getD_cons_zero,HN,t_]
   rw [ih]
   rfl
theorem xD {m finger moves:Nat} {led plain:Bool} (c:oE m=true) (hs:Array Int) (hl:hs.size≤m):∃ t order,laid m finger moves led plain hs=some (t,order)∧t.mask=m∧t.moves=moves∧t.led=led∧t.plain=plain∧Tb t hs.size∧order.toList.Perm (h_ hs.size):=by
 obtain ⟨o2,c1,c2,c3⟩:=gK c hs hl
 have e:=nh o2.toList 0
 have hlen:((h_ (m + 1)).filterMap fun j=>(o2.getD j none).map (j,·))=((h_ o2.toList.length).filterMap fun j=>(o2.toList.getD j none).map (fun x=>(0 + j,x))):=by
  rw [G0,c2]
  congr 1
  funext j
  rw [Jc,GX,List.getD_eq_getElem?_getD,Hu]
 refine ⟨_,_,by unfold laid; rw [c1]; rfl,rfl,rfl,rfl,rfl,⟨?_,rfl,c,hl⟩,?_⟩
 · simp only [y_,Gw]
   rw [hlen]
   have:=congrArg OA e
   rw [Gw] at this
   rw [this,c3.length_eq,KI]
 · rw [IL,hlen,e]
   exact c3
theorem eR {α:Type} (xs:Array α) (p:Nat) (x:α) (h:p≤xs.size):(insertAt xs p x).size=xs.size + 1:=by
 unfold insertAt
 simp only [Oa,Array.size_push,Array.size_extract]
 omega
theorem ju (xs:Array Nat) (j:Nat):below xs j≤xs.size:=by
 unfold below
 have:∀ (fuel lo hi:Nat),lo≤hi→hi≤xs.size→Mc xs j fuel lo hi≤xs.size:=by
  intro fuel
  induction fuel with
  | zero=>intro lo hi h1 h2; unfold Mc; omega
  | succ fuel ih =>
   intro lo hi h1 h2
   unfold Mc
   split
   · rename_i hlt
     dsimp only
     split
     · exact ih _ _ (by omega) h2
     · exact ih _ _ (by omega) (by omega)
   · omega
 exact this _ _ _ (GI _) (l_ _)
theorem AH {t:SetTable} {n:Nat} (T:Tb t n) (h:n + 1≤t.mask) (j:Nat):Tb (t.put j).1 (n + 1)∧(t.put j).2≤n∧(t.put j).1.mask=t.mask∧(t.put j).1.led=t.led∧(t.put j).1.moves=t.moves:=by
 unfold SetTable.put
 refine ⟨⟨?_,?_,T.cyc,h⟩,?_,rfl,rfl,rfl⟩
 · show (insertAt t.place (below t.place j) j).size=n + 1
   rw [eR _ _ _ (ju _ _),T.size]
 · show (if has t.dummies j then eraseAt t.dummies (below t.dummies j) else t.dummies)=#[]
   rw [T.dm,qC]
   rfl
 · show below t.place j≤n
   rw [← T.size]
   exact ju _ _
section
variable {prog:Program} {w:x_} {A:u_} {E:Value→c_→Prop} {s:c_}
abbrev TK (prog:Program) (w:x_) (h:Heap) (k:List Str) (a:Addr):Prop:=IsTupleKey (strKind prog w) h k a
abbrev hsh (prog:Program) (w:x_) (k:List Str):Int:=tupleKeyHash (strKind prog w) k
theorem kl {k:List Str} {vs:List Value} (h:ItemsAre (strKind prog w) k vs):∀ v∈vs,∃ x t,v=.str x t:=by
 induction h with
 | nil=>intro v hv; simp at hv
 | @cons k' v' ks vs h1 _ ih =>
  intro v hv
  rcases p_.mp hv with rfl | hv
  · obtain ⟨t,rfl⟩:=Nr h1
    exact ⟨_,_,rfl⟩
  · exact ih v hv
theorem qG {k:List Str} {a:Addr} {Q:Bool→c_→Prop} (hk:TK prog w s.heap k a) (h:Q false s):m_ (pi prog w) A (ofAClassStatement 8 (.ref a)) Q E s:=by
 have hT:=hk.typeIs
 obtain ⟨o,items,n,ho,_,hd,hi⟩:=hk
 unfold ofAClassStatement
 refine b_ (Kp hT ?_)
 show m_ _ _ ((if ("tuple" == "tuple")=true then pure true else isSubtype (.type "tuple") (.type "tuple")) >>= _) _ _ s
 rw [if_pos (by decide)]
 refine b_ (d_ ?_)
 simp only [IJ,i_,if_false]
 refine b_ (Lq ho hd ?_)
 refine b_ ?_
 show m_ _ _ (O7 items _ _) _ _ s
 rw [← Kg]
 refine JD _ (fun rest r s'=>r.1=none∧s'=s∧∀ v∈rest,∃ x t,v=Ki x t) _ ?_ ?_ _ _ ⟨rfl,rfl,kl hi⟩
 · rintro v rest r s' ⟨hr,rfl,hall⟩
   obtain ⟨x,t,rfl⟩:=hall v j_
   refine b_ (d_ ?_)
   simp only [i_,if_false]
   exact d_ ⟨rfl,rfl,fun u hu'=>hall u (k_ _ hu')⟩
 · rintro ⟨r1,r2⟩ s' ⟨hr,rfl,_⟩
   simp only at hr
   subst hr
   exact d_ h
theorem vL {k:List Str} {b:Addr} (hk:TK prog w s.heap k b) {l:List Value} (hl:∀ v∈l,∃ k' a,v=.ref a∧TK prog w s.heap k' a) {Q:Bool→c_→Prop} (h:Q false s):m_ (pi prog w) A (searchCouldBeSeen (.ref b) l) Q E s:=by
 unfold searchCouldBeSeen
 refine b_ ?_
 refine JD _ (fun rest r s'=>r.1=none∧s'=s∧∀ v∈rest,∃ k' a,v=q_ a∧TK prog w s.heap k' a) _ ?_ ?_ _ _ ⟨rfl,rfl,hl⟩
 · rintro v rest r s' ⟨hr,rfl,hall⟩
   obtain ⟨k',a,rfl,ha⟩:=hall v j_
   have hrest:∀ v∈rest,∃ k' a,v=q_ a∧TK prog w s'.heap k' a:=fun u hu'=>hall u (k_ _ hu')
   dsimp only
   split
   · exact d_ ⟨rfl,rfl,hrest⟩
   · refine b_ (MT hk ?_)
     simp only [IJ,i_,if_false]
     refine b_ (MT ha ?_)
     simp only [IJ,i_,if_false]
     refine b_ (qG hk ?_)
     simp only [i_,if_false]
     refine b_ (qG ha ?_)
     simp only [i_,if_false]
     exact d_ ⟨rfl,rfl,hrest⟩
 · rintro ⟨r1,r2⟩ s' ⟨hr,rfl,_⟩
   simp only at hr
   subst hr
   exact d_ h
theorem lM {k:List Str} {a:Addr} {Q:Bool→c_→Prop} (hk:TK prog w s.heap k a) (h:∀ b,Q b s):m_ (pi prog w) A (hashByValue 8 (.ref a)) Q E s:=by
 have hT:=hk.typeIs
 obtain ⟨o,items,n,ho,_,hd,hi⟩:=hk
 unfold hashByValue
 refine b_ (wpAny_specialOf hT F.slot_tuple_hash.lookup ?_)
 dsimp only
 refine b_ (Lq ho hd ?_)
 refine b_ ?_
 show m_ _ _ (O7 items _ _) _ _ s
 rw [← Kg]
 refine JD _ (fun rest r s'=>r.1=none∧s'=s∧∀ v∈rest,∃ x t,v=Ki x t) _ ?_ ?_ _ _ ⟨rfl,rfl,kl hi⟩
 · rintro v rest r s' ⟨hr,rfl,hall⟩
   obtain ⟨x,t,rfl⟩:=hall v j_
   refine b_ (d_ ?_)
   simp only [JC,if_true]
   refine d_ ?_
   exact d_ (h _)
 · rintro ⟨r1,r2⟩ s' ⟨hr,rfl,_⟩
   simp only at hr
   subst hr
   exact d_ (h _)
def Ent (prog:Program) (w:x_) (h:Heap) (ks:List (List Str)) (es:List (Int×Value)):Prop:=∀ e∈es,∃ k a,k∈ks∧e.2=.ref a∧TK prog w h k a
theorem fz {t:SetTable} {n:Nat} (T:Tb t n):t.fits n=true:=by
 unfold SetTable.fits O3
 rw [T.size,T.dm]
 simp [T.room]
end
section
variable {prog:Program} {w:x_} {A:u_} {E:Value→c_→Prop} {s:c_}
def SetT (prog:Program) (w:x_) (h:Heap) (S:Addr) (ks:List (List Str)) (n:Nat):Prop :=
 ∃ o es ep t,h.get? S=some o∧o.ExactSet∧o.data=.set es ep t∧es.size=n∧Tb t n∧((t.mask=7∧n≤4)∨(t.mask=31∧n≤18))∧Ent prog w h ks es.toList
theorem TK.keeps {h h':Heap} {k:List Str} {a S:Addr} {o:Obj} {es ep t} (x:TK prog w h k a) (ho:h.get? S=some o) (hd:o.data=.set es ep t) (hs:Hl S h h'):TK prog w h' k a:=by
 obtain ⟨o',items,n,ho',hc,hd',hi⟩:=x
 have hne:a≠S:=by
  rintro rfl
  obtain rfl:o'=o:=GL (ho'.symm.trans ho)
  rw [hd] at hd'; exact nomatch hd'
 exact ⟨o',items,n,(hs.2 a hne).trans ho',hc,hd',hi⟩
theorem Ent.keeps {h h':Heap} {ks:List (List Str)} {l:List (Int×Value)} {S:Addr} {o:Obj} {es ep t} (x:Ent prog w h ks l) (ho:h.get? S=some o) (hd:o.data=.set es ep t) (hs:Hl S h h'):Ent prog w h' ks l:=fun e he=>by
 obtain ⟨k,a,h1,h2,h3⟩:=x e he
 exact ⟨k,a,h1,h2,h3.keeps ho hd hs⟩
theorem km {h:Heap} {S:Addr} {o:Obj} {es es':Array (Int×Value)} {ep:Nat} {t t':SetTable} (ho:h.get? S=some o) (hd:o.data=.set es ep t):(h.update S (Lz es' t')).get? S=some { o with data:=.set es' (ep + 1) t' }:=by
 have:=KP (Lz es' t') ho (by rw [putSet_of es' t' hd]; rfl)
 rw [putSet_of es' t' hd] at this; exact this
theorem Ent.insert {h:Heap} {ks:List (List Str)} {es:Array (Int×Value)} {k:List Str} {b:Addr} {p:Nat} {x:Int} (hE:Ent prog w h ks es.toList) (hb:TK prog w h k b):Ent prog w h (k :: ks) (v_ es p (x,.ref b)).toList:=fun e he=>by
 have he':=(MD es p (x,q_ b)).mem_iff.mp he
 rw [LY] at he'
 rcases F_.mp he' with q | q
 · obtain ⟨k',a,h1,h2,h3⟩:=hE e q
   exact ⟨k',a,k_ _ h1,h2,h3⟩
 · rw [Gr] at q
   subst q
   exact ⟨k,b,j_,rfl,hb⟩
theorem qH {t:SetTable} {n:Nat} (T:Tb t n):t.fill=n:=by unfold O3; rw [T.size,T.dm]; simp
theorem uh {α:Type} (es:Array α):(h_ es.size).filterMap (fun i=>es[i]?)=es.toList:=by
 apply KL
 intro i
 have:(h_ es.size).filterMap (fun i=>es[i]?)=(h_ es.size).pmap (fun i h=>es[i]) (fun i h=>Gy.mp h):=by
  rw [List.pmap_eq_map_attach,← List.filterMap_eq_map]
  conv=>lhs; rw [← List.attach_map_subtype_val (h_ es.size)]
  rw [LH]
  congr 1
  funext ⟨i,hi⟩
  simp [Gy.mp hi]
 rw [this]
 simp [List.getElem?_pmap,HM]
 by_cases hi:i < es.size
 · simp [hi]
 · simp [hi]
end
end ST
namespace ST
open PySem PySem.SetTable PyProof.Rows
section
variable {prog:Program} {w:x_} {A:u_} {R:NK→c_→Prop} {I:Addr} {fp wr:List Addr} {G:Array LA→Array LA→Prop} {n:Nat} {P:Nat→Value→Prop} {St:Nat→c_→Prop}
theorem TK.moved {h h':Heap} {k:List Str} {a:Addr} (x:TK prog w h k a) (hm:∀ o,h.get? a=some o→h'.get? a=some o):TK prog w h' k a:=by
 obtain ⟨o',items,n,ho',hc,hd',hi⟩:=x
 exact ⟨o',items,n,hm _ ho',hc,hd',hi⟩
theorem SetT.moved {h h':Heap} {S:Addr} {ks:List (List Str)} {n:Nat} (x:SetT prog w h S ks n) (hS:∀ o,h.get? S=some o→h'.get? S=some o) (hm:∀ k∈ks,∀ a,TK prog w h k a→TK prog w h' k a):SetT prog w h' S ks n:=by
 obtain ⟨o,es,ep,t,ho,hex,hd,hsz,T,hmk,hE⟩:=x
 exact ⟨o,es,ep,t,hS _ ho,hex,hd,hsz,T,hmk,fun e he=>let ⟨k,a,h1,h2,h3⟩:=hE e he; ⟨k,a,h1,h2,hm k h1 a h3⟩⟩
end
section
variable {prog:Program} {w:x_} {A:u_} {E:Value→c_→Prop} {s:c_}
abbrev oF (led:Bool):Obj:={ cls:=.type "set",dict:=none,data:=.set #[] 0 (.fresh 0 0 led) }
end
end ST
namespace FD
open PySem PySem.Spec PyProof.Rows L2
def aV:List Dv→Option (List Str)
 | []=>some []
 | .str x :: r=>(aV r).map (x :: ·)
 | _=>none
def gM:List Dv→Option (List (List Str))
 | []=>some []
 | .tup ds :: r=>match aV ds,gM r with
  | some k,some ks=>some (k :: ks)
  | _,_=>none
 | _=>none
section
variable {X:Cx} {pins:List (Addr×Obj)} {σ:L2.St} {H:Hp} {s:c_}
theorem iG {prog:Program} {w:x_}:∀ {ds:List Dv} {k:List Str} {ys:List V} {its:List Value},aV ds=some k→Reps X.K H ds ys→Vals ys its→OV (L5 prog w) k its
 | [],k,ys,its,h,r,v=>by
  cases h
  cases (show ys=[] from r)
  cases v
  exact .nil
 | .str x :: ds,k,ys,its,h,r,v=>by
  obtain ⟨y,us,rfl,r1,r2⟩:∃ v us,ys=v :: us∧Rep X.K H (.str x) v∧Reps X.K H ds us:=r
  cases (show y=.str x from r1)
  obtain ⟨k',h1,rfl⟩:=Gq.mp (show (aV ds).map (x :: ·)=some k from h)
  cases v with
  | cons v1 v2 =>
   obtain ⟨t,rfl⟩:=v1
   exact .cons (by show JQ x (.str x t)=true; simp [JQ]) (iG h1 r2 v2)
 | .non :: ds,k,ys,its,h,r,v=>by cases h
 | .bl _ :: ds,k,ys,its,h,r,v=>by cases h
 | .int _ :: ds,k,ys,its,h,r,v=>by cases h
 | .tup _ :: ds,k,ys,its,h,r,v=>by cases h
 | .lst _ :: ds,k,ys,its,h,r,v=>by cases h
 | .scr _ :: ds,k,ys,its,h,r,v=>by cases h
 | .exn _ :: ds,k,ys,its,h,r,v=>by cases h
theorem Ea (I:Inv X pins σ H s) {ds:List Dv} {k:List Str} {v:V} {u:Value} (h:aV ds=some k) (r:Rep X.K H (.tup ds) v) (q:RelV v u):∃ a,u=.ref a∧ST.TK X.prog X.w s.heap k a:=by
 obtain ⟨a,xs,rfl,hH,rs⟩:=r.tupE
 cases (show u=q_ a from q)
 obtain ⟨its,rv,⟨o,e,c,n,d⟩,hz⟩:=I.tuple (SqT.of hH)
 exact ⟨a,rfl,o,its.toArray,_,e,c,d,by simpa using iG h rs rv⟩
theorem qI (I:Inv X pins σ H s):∀ {ds:List Dv} {ks:List (List Str)} {xs:List V} {its:List Value},gM ds=some ks→Reps X.K H ds xs→Vals xs its→ks.length=its.length∧∀ i,i < its.length→∃ a,its[i]?=some (.ref a)∧ST.TK X.prog X.w s.heap (ks.getD i []) a
 | [],ks,xs,its,h,r,v=>by
  cases h
  cases (show xs=[] from r)
  cases v
  exact ⟨rfl,fun i hi=>absurd hi (Ie _)⟩
 | .tup es :: ds,ks,xs,its,h,r,v=>by
  obtain ⟨y,us,rfl,r1,r2⟩:∃ v us,xs=v :: us∧Rep X.K H (.tup es) v∧Reps X.K H ds us:=r
  unfold gM at h
  split at h
  · rename_i k ks' h1 h2
    cases h
    cases v with
    | cons v1 v2 =>
     obtain ⟨a,rfl,ta⟩:=Ea I h1 r1 v1
     obtain ⟨q1,q2⟩:=qI I h2 r2 v2
     refine ⟨by simp [q1],fun i hi=>?_⟩
     cases i with
     | zero=>exact ⟨a,rfl,ta⟩
     | succ i =>
      obtain ⟨a',e1,e2⟩:=q2 i (by simpa using hi)
      exact ⟨a',by simpa using e1,by simpa using e2⟩
  · cases h
 | .non :: ds,ks,xs,its,h,r,v=>by cases h
 | .bl _ :: ds,ks,xs,its,h,r,v=>by cases h
 | .int _ :: ds,ks,xs,its,h,r,v=>by cases h
 | .str _ :: ds,ks,xs,its,h,r,v=>by cases h
 | .lst _ :: ds,ks,xs,its,h,r,v=>by cases h
 | .scr _ :: ds,ks,xs,its,h,r,v=>by cases h
 | .exn _ :: ds,ks,xs,its,h,r,v=>by cases h
end
section
variable {X:Cx} {p p2 pos pos2:Pos} {e:Expr} {ga:FnA}
end
def AI:Dv→Dv→Option (Rs Dv)
 | .lst xs,.int n=>if 0≤n∧xs.length * n.toNat≤100000∧n≤100000 then some (.ok (.lst (rl n.toNat xs).flatten)) else none
 | x,y=>Fk x y
section
variable {X:Cx}
theorem ni {K:ck} {H:Hp} {ds:List Dv} {vs:List V} (h:Reps K H ds vs):∀ n:Nat,Reps K H (rl n ds).flatten (rl n vs).flatten
 | 0=>rfl
 | n + 1=>by
  rw [Hq,Hq,IC,IC]
  exact h.append (ni h n)
def AJ:R2:=fun x y H Q=>E7 x y H Q∨(tX x y H Q∨rI CMul (fun i j=>.int (i * j)) x y H Q)
theorem AK:OpR X (HQ .Mult) AJ:=op_rep.or Ar
theorem AM:GOp X AJ AI:=by
 intro dx dy x y H Q rx ry o
 cases dx with
 | lst xs =>
  cases dy with
  | int n =>
   have o2:Out X H (if 0≤n∧xs.length * n.toNat≤100000∧n≤100000 then some (.ok (.lst (rl n.toNat xs).flatten)) else none) Q:=o
   by_cases hc:0≤n∧xs.length * n.toNat≤100000∧n≤100000
   · rw [if_pos hc] at o2
     obtain ⟨p,vs,rfl,h1,q1⟩:=rx.lstE
     refine .inl ⟨p,n,vs,rfl,ry,h1,by omega,by omega,by rw [q1.length]; exact bg hc.2.1,fun l hl=>o2 _ _ (au hl _) ⟨l,_,rfl,am,Reps.mono (au hl _) _ _ (ni q1 _)⟩⟩
   · rw [if_neg hc] at o2
     exact o2.elim
  | _=>exact .inr (vG _ _ x y H Q rx ry o)
 | _=>exact .inr (vG _ _ x y H Q rx ry o)
end
def frs {α:Type} (P:α→Bool):Sem α→Bool
 | .pure a=>P a
 | .fresh _=>true
 | .at _ k=>frs P (k ())
 | .rule _ k=>frs P (k ())
 | .point _ k=>frs P (k ())
 | _=>false
structure FE1 (X:Cx) (e:Expr) (f:FnE):Prop where
 h:∀ (pins:List (Addr×Obj)) (s:c_) (σ:L2.St) (H:Hp) (Q:VK),1≤s.toks→Inv X pins σ H s→tF X f σ H Q→m_ (pi X.prog X.w) X.A (eval e X.env) (EP X pins σ Q) X.xe s
structure FT1 (X:Cx) (e:Expr) (f:FnB):Prop where
 h:∀ (pins:List (Addr×Obj)) (s:c_) (σ:L2.St) (H:Hp) (Q:Bool→Hp→Prop),1≤s.toks→Inv X pins σ H s→tT X f σ H Q→m_ (pi X.prog X.w) X.A (isTrue e X.env (eval e X.env)) (TP X pins σ Q) X.xe s
structure FW1 (X:Cx) (e:Expr) (f:FnB):Prop where
 h:∀ (whole:Sem Value) (pins:List (Addr×Obj)) (s:c_) (σ:L2.St) (H:Hp) (Q:Bool→Hp→Prop),1≤s.toks→Inv X pins σ H s→tT X f σ H Q→m_ (pi X.prog X.w) X.A (isTrue e X.env whole) (TP X pins σ Q) X.xe s
structure FS1 (X:Cx) (st:Stmt) (f:FnS):Prop where
 h:∀ (pins:List (Addr×Obj)) (s:c_) (σ:L2.St) (H:Hp) (D:mD),1≤s.toks→Inv X pins σ H s→tS X f D σ H→m_ (pi X.prog X.w) X.A (exec st X.env) (SP X pins D) X.xe s
structure Gk (X:Cx) (st:List Stmt) (f:FnS):Prop where
 h:∀ (pins:List (Addr×Obj)) (s:c_) (σ:L2.St) (H:Hp) (D:mD),1≤s.toks→Inv X pins σ H s→tS X f D σ H→m_ (pi X.prog X.w) X.A (execs st X.env) (SP X pins D) X.xe s
structure FTg (X:Cx) (e:Expr) (f:FnB):Prop where
 h:∀ (pins:List (Addr×Obj)) (s:c_) (σ:L2.St) (H:Hp) (Q:Bool→Hp→Prop),Inv X pins σ H s→tT X f σ H Q→m_ (pi X.prog X.w) X.A (isTrue e X.env (eval e X.env)) (fun b s'=>(b=true∨1≤s'.toks)∧TP X pins σ Q b s') X.xe s
structure FWg (X:Cx) (e:Expr) (f:FnB):Prop where
 h:∀ (whole:Sem Value) (pins:List (Addr×Obj)) (s:c_) (σ:L2.St) (H:Hp) (Q:Bool→Hp→Prop),Inv X pins σ H s→tT X f σ H Q→m_ (pi X.prog X.w) X.A (isTrue e X.env whole) (fun b s'=>(b=true∨1≤s'.toks)∧TP X pins σ Q b s') X.xe s
def AN:Flow→Bool
 | .next=>true
 | _=>false
structure FSg (X:Cx) (st:Stmt) (f:FnS):Prop where
 h:∀ (pins:List (Addr×Obj)) (s:c_) (σ:L2.St) (H:Hp) (D:mD),Inv X pins σ H s→tS X f D σ H→m_ (pi X.prog X.w) X.A (exec st X.env) (fun fl s'=>(AN fl=false∨1≤s'.toks)∧SP X pins D fl s') X.xe s
section
variable {X:Cx} {a b o e:Expr} {fa fo:FnE} {ga gb:FnB} {f g:FnS} {rest:List Expr} {st:Stmt} {sts as bs:List Stmt} {pos apos cpos:Pos}
theorem FWg.ft (h:FWg X e ga):FTg X e ga:=⟨h.h _⟩
end
section
variable {prog:Program} {w:x_} {A:u_} {E:Value→c_→Prop} {s:c_}
theorem oG {iv tv:Addr} {k:Nat} {vs:Array Value} {v:Value} {Q:Value→c_→Prop} (gi:s.heap.IsTupleIter iv tv k) (gt:s.heap.IsTuple tv vs) (gv:vs[k]?=some v)
 (q:∀ h',h'.IsTupleIter iv tv (k + 1)→Hl iv s.heap h'→Q v { s with heap:=h' }):m_ (pi prog w) A (Iq (.ref iv)) Q E s:=by
 obtain ⟨ob,o1,o2,o3⟩:=id gi; obtain ⟨tb,t1,_,m,t2⟩:=gt
 unfold Iq
 refine b_ (G3 (name:=a_ "__next__") gi.typeIs Ij (G9 Ij gi.typeIs Ll ?_ (Lf _)))
 show m_ _ _ (OL (.ref iv) 0 >>= _) _ _ s; refine b_ (Hs o1 o3 (x:=.ref tv) rfl ?_)
 show m_ _ _ (if (q_ tv == GH)=true then _ else _) _ _ s; rw [if_neg (show ¬ ((q_ tv == GH)=true) from on)]
 show m_ _ _ (OL (.ref iv) 1 >>= _) _ _ s; refine b_ (Hs o1 o3 (x:=.int k 0) rfl ?_)
 show m_ _ _ (seqItems? (.ref tv) >>= _) _ _ s; refine b_ (Lq t1 t2 ?_); simp only [KM,gv]
 refine b_ (Lp o1 o3 (by simp) (d_ ⟨v,rfl,d_ (q _ ⟨_,KP _ o1 (MV (Kb o3 _)),(N5 ..).trans o2,by rw [Kb o3]; simp [KU]⟩ (Ih ..))⟩))
theorem qJ {iv tv:Addr} {k:Nat} {vs:Array Value} {Q:Value→c_→Prop} (hh:A.handled=none) (gi:s.heap.IsTupleIter iv tv k) (gt:s.heap.IsTuple tv vs) (gv:vs[k]?=none)
 (q:∀ h' e,Oy iv s.heap h'→(∃ o,h'.get? e=some o∧o.cls=.type "StopIteration")→E (.ref e) { s with heap:=h' }):m_ (pi prog w) A (Iq (.ref iv)) Q E s:=by
 obtain ⟨ob,o1,o2,o3⟩:=id gi; obtain ⟨tb,t1,_,m,t2⟩:=gt
 unfold Iq
 refine b_ (G3 (name:=a_ "__next__") gi.typeIs Ij (G9 Ij gi.typeIs Ll ?_ (Lf _)))
 show m_ _ _ (OL (.ref iv) 0 >>= _) _ _ s; refine b_ (Hs o1 o3 (x:=.ref tv) rfl ?_)
 show m_ _ _ (if (q_ tv == GH)=true then _ else _) _ _ s; rw [if_neg (show ¬ ((q_ tv == GH)=true) from on)]
 show m_ _ _ (OL (.ref iv) 1 >>= _) _ _ s; refine b_ (Hs o1 o3 (x:=.int k 0) rfl ?_)
 show m_ _ _ (seqItems? (.ref tv) >>= _) _ _ s; refine b_ (Lq t1 t2 ?_); simp only [KM,gv]
 refine b_ (J0 (b_ (Lp o1 o3 (by simp) ?_)))
 show m_ _ _ (newExc (.type "StopIteration") [] >>= _) _ _ _; refine b_ ?_; simp only [newExc,newTuple]; refine b_ (G5 ?_ (by size_fits))
 refine b_ (m:=Lv _ _) (wpAny_of_eq (a:=GH) (by first | rfl | (simp only [Lv]; rfl)) ?_); refine G5 ?_ (by size_fits); simp only [raiseNew]
 refine b_ (wpAny_handled ?_); first | rw [show A.in1.handled=none from hh] | rw [hh]
 exact b_ (d_ (wpAny_throw (q _ _ (((Ih ..).extBut.push _).push _) ⟨_,r_ _ rfl,rfl⟩)))
end
abbrev zq1 (h:Heap) (l1:Addr):Heap:=h.push { cls:=.type "tuple_iterator",data:=.fields #[.ref l1,.int 0 0] }
section
variable {prog:Program} {w:x_} {A:u_} {E:Value→c_→Prop} {s:c_}
end
structure ZSt (z TI TO i1 i2 a b:Addr) (i:Nat) (h:Heap):Prop where
 z:IsZip h z TI TO .none
 ti:IsPair h TI (.ref i1) (.ref i2)
 to:∃ p q,IsPair h TO p q
 j1:h.IsTupleIter i1 a i
 j2:h.IsTupleIter i2 b i
structure ZNe (z TI TO i1 i2:Addr):Prop where
 n1:TI≠z
 n2:TO≠z
 n3:i1≠z
 n4:i2≠z
 n5:TI≠TO
 n6:TI≠i1
 n7:TI≠i2
 n8:TO≠i1
 n9:TO≠i2
 n10:i1≠i2
theorem Gm {z TI TO i1 i2 c:Addr} (h:c∈[z,TI,TO,i1,i2]):c=z∨c=TI∨c=TO∨c=i1∨c=i2:=by simpa using h
def tgG (X:Cx) (b:Dv→Ev→Option Ev):TG:=fun v σ H Q=>∃ d ρ ρ',Rep X.K H d v∧Envs X.K H σ ρ∧b d ρ=some ρ'∧∀ σ' H',Same H H'→Envs X.K H' σ' ρ'→Q σ' H'
theorem FG.pg {X:Cx} {tg:Expr} {b:Dv→Ev→Option Ev} (h:FG X tg b):PG X tg (tgG X b):=fun pins s σ H v u Q I r ⟨d,ρ,ρ',rd,E,e,q⟩ =>
 thn (h.h pins s σ H v u d ρ ρ' I r rd E e) fun _ s' ⟨σ',H',I',e1,E'⟩=>⟨σ',H',I',q σ' H' e1 E'⟩
section
variable {X:Cx} {p pos:Pos} {e:Expr} {es:List Expr} {ga:FnA}
end
theorem Reps.set {K:ck} {H:Hp} {d:Dv} {v:V} (rd:Rep K H d v):∀ {ds:List Dv} {vs:List V} (j:Nat),Reps K H ds vs→Reps K H (ds.set j d) (vs.set j v)
 | [],vs,j,r=>by cases (show vs=[] from r); exact r
 | d0 :: ds,vs,0,r=>by
  obtain ⟨v0,vs',rfl,r0,rt⟩:∃ v us',vs=v :: us'∧Rep K H d0 v∧Reps K H ds us':=r
  exact ⟨v,vs',rfl,rd,rt⟩
 | d0 :: ds,vs,j + 1,r=>by
  obtain ⟨v0,vs',rfl,r0,rt⟩:∃ v us',vs=v :: us'∧Rep K H d0 v∧Reps K H ds us':=r
  exact ⟨v0,vs'.set j v,rfl,r0,Reps.set rd j rt⟩
section
variable {X:Cx} {i:Nat} {e ix:Expr} {fe fi:FnE} {pos ps:Pos}
end
section
variable {X:Cx} {p pos:Pos} {e:Expr} {es:List Expr} {ga:FnA}
end
def jv (j k:Nat) (js:List Nat) (body:dJ):List Dv→Ev→List Dv→Option Fo
 | [],ρ,xs=>some (.nx (fgt js ρ) xs)
 | .tup [a,c] :: ds,ρ,xs=>(match body (((fgt js ρ).set j (some a)).set k (some c)) xs with
  | some (.nx ρ' xs')=>jv j k js body ds ρ' xs'
  | o=>o)
 | _ :: _,_,_=>none
def oH (j k:Nat) (js:List Nat) (src:FnA) (body:dJ):dJ:=fun ρ xs=>pc (src ρ) fun ds=>if imms ds=true then jv j k js body ds ρ xs else none
def tgP (K:ck) (j k:Nat):TG:=fun v σ H Q=>∃ p va vc,v=.ref p∧SqT K H p [va,vc]∧Q ((σ.set j (some va)).set k (some vc)) H
theorem xE {X:Cx} {pos p1 p2:Pos} (i j:Nat) {x y:Str} {k:Nat} (hc:X.calm=true) (hN:X.N.Nodup) (hi:X.N[i]?=some x) (hx:Loc X.env.scope x) (hf:X.fn x=true∨X.env.scope.names.lookup x=some .local)
 (hj:X.N[j]?=some y) (hy:Loc X.env.scope y) (hg:X.fn y=true∨X.env.scope.names.lookup y=some .local)
 (hs1:(GD [.Name x p1,.Name y p2] X.env).map (·.2)=Kr (.Name x p1) X.env :: (GD [.Name y p2] X.env).map (·.2):=by kernel_rfl) (hs2:(GD [.Name y p2] X.env).map (·.2)=Kr (.Name y p2) X.env :: (GD [] X.env).map (·.2):=by kernel_rfl)
 (hn:(GD [.Name x p1,.Name y p2] X.env).length=2:=by kernel_rfl) (hst:(GD [.Name x p1,.Name y p2] X.env).findIdx? (·.1)=none:=by kernel_rfl):PG X (.Tuple [.Name x p1,.Name y p2] k pos) (tgP X.K i j) :=
 fun pins s σ H v u Q I r ⟨p,va,vc,e,hq,q⟩ =>
  vh (n:=2) hc (gc (cT (i:=i) hN hi hx hf) (gc (cT (i:=j) hN hj hy hg) pA hs2) hs1) hn hst pins s σ H v u Q I r ⟨p,_,e,hq,rfl,va,[vc],rfl,vc,[],rfl,rfl,q⟩
theorem xF {X:Cx} {i:Nat} {tg iter:Expr} {body:List Stmt} {pos:Pos} {src:FnA} {fb:dJ} (hex:X.ex=[]) (j k:Nat) (js:List Nat) (hij:i≠j) (hik:i≠k) (hp:Kk (pi X.prog X.w) X.A X.env X.xe) (hc:X.calm=true) (hi:FIG X tg iter src) (hg:PG X tg (tgP X.K j k)) (hb:FOs X i body fb)
 (hs:∀ x,Gs iter X.env x=pure x:=by intro _; kernel_rfl):FO1 X i (.For tg iter body [] pos) (oH j k js src fb):=⟨fun pins s σ Hf D I ⟨H,a,xs,ρ,ds,e1,ha,hia,E,r,o⟩=>by
 refine mF hp hc (qr hex hi.h) hg hb.h hs pins s σ Hf D I ⟨H,a,xs,e1,ha,ρ,E,?_⟩
 unfold oH at o
 match hf:src ρ with
 | none=>rw [hf] at o; exact o.elim
 | some (.exc _)=>rw [hf] at o; exact o.elim
 | some (.ok us) =>
  rw [hf] at o
  have o0:OutW X i a H (if imms us=true then jv j k js fb us ρ ds else none) D:=o
  by_cases him:imms us=true
  · rw [if_pos him] at o0
    intro J H1 e1 wk ha1
    have o1:=OutW.mono e1 o0
    refine ⟨fun n m σ' Hf'=>m=us.length - n∧n≤us.length∧∃ H' xs' ρ' ds',Hf'=upd H' a (.lst xs')∧H' a=none∧Same H1 H'∧σ'[i]?=some (some (.ref a))∧Envs X.K H' σ' ρ'∧Reps X.K H' ds' xs'∧OutW X i a H' (jv j k js fb (us.drop n) ρ' ds') D,
     ⟨us.length,by simp,GI _,H1,xs,ρ,ds,rfl,ha1,.refl H1,hia,E.mono e1,Reps.mono e1 _ _ r,by simpa using o1⟩,?_⟩
    rintro n m σ' Hf' ⟨rfl,hn,H',xs',ρ',ds',rfl,ha',e2,hia',E',r',o'⟩
    have e2f:Same H1 (upd H' a (.lst xs')):=e2.trans (b5 ha')
    by_cases hlt:n < us.length
    · refine .inr ⟨wk.go n _ e2f hlt,fun σ2 Hf2=>∃ H2 xs2 ρ2 ds2,Hf2=upd H2 a (.lst xs2)∧H2 a=none∧Same H1 H2∧σ2[i]?=some (some (.ref a))∧Envs X.K H2 σ2 ρ2∧Reps X.K H2 ds2 xs2∧OutW X i a H2 (jv j k js fb (us.drop (n + 1)) ρ2 ds2) D,
       fun σ2 Hf2 q=>⟨us.length - (n + 1),by omega,rfl,hlt,q⟩,fun x H2 y=>?_⟩
      obtain ⟨e4,d,hd,rd⟩:=wk.yld n _ x H2 e2f hlt y
      have him':=eQ him hd
      rw [dc hd] at o'
      obtain ⟨d1,d2,rfl⟩:∃ d1 d2,d=.tup [d1,d2]:=by
       match d,o' with
       | .tup [d1,d2],_=>exact ⟨d1,d2,rfl⟩
       | .tup [],o'=>exact (show False from o').elim
       | .tup [_],o'=>exact (show False from o').elim
       | .tup (_ :: _ :: _ :: _),o'=>exact (show False from o').elim
       | .non,o'=>exact (show False from o').elim
       | .bl _,o'=>exact (show False from o').elim
       | .int _,o'=>exact (show False from o').elim
       | .str _,o'=>exact (show False from o').elim
       | .lst _,o'=>exact (show False from o').elim
       | .scr _,o'=>exact (show False from o').elim
       | .exn _,o'=>exact (show False from o').elim
      unfold jv at o'
      · obtain ⟨p,vs,rfl,hpv,rv⟩:=rd.tupE
        obtain ⟨va,vc,rfl,ra,rc⟩:=z5 rv
        have hi2:imm d1=true∧imm d2=true:=by simpa [imm,imms] using him'
        have hat:H2 a=some (.lst xs'):=e4 _ _ am
        let H3:Hp:=fun b=>if b=a then none else H2 b
        have h3a:H3 a=none:=by simp [H3]
        have h3e:upd H3 a (.lst xs')=H2:=by
         funext b
         by_cases hb:b=a
         · rw [hb,am,hat]
         · rw [ao hb]; simp [H3,hb]
        have s3:Same H' H3:=fun b o q=>by
         have hb:b≠a:=fun z=>by rw [z,ha'] at q; cases q
         have:=e4 b o (by rw [ao hb]; exact q)
         simpa [H3,hb] using this
        rw [← h3e] at ra rc
        have ra':=gf hi2.1 ra
        have rc':=gf hi2.2 rc
        refine ⟨p,va,vc,rfl,SqT.of hpv,?_⟩
        show tO X i fb _ _ _
        refine ⟨H3,a,xs',((fgt js ρ').set j (some d1)).set k (some d2),ds',h3e.symm,h3a,by rw [uk (Im hik),uk (Im hij)]; exact hia',(((Envs.fgt js E').mono s3).set ra').set rc',Reps.mono s3 _ _ r',?_⟩
        have o2:=OutW.mono s3 o'
        match hb':fb (((fgt js ρ').set j (some d1)).set k (some d2)) ds' with
        | none=>rw [hb'] at o2; exact o2
        | some (.rt r)=>rw [hb'] at o2; exact o2
        | some (.nx ρ2 ds2)=>rw [hb'] at o2; exact fun σ2 H4 xs3 e3 h3 hi3 E3 r3=>⟨H4,xs3,ρ2,ds2,rfl,h3,(e2.trans s3).trans e3,hi3,E3,r3,OutW.mono e3 o2⟩
    · have hn':n=us.length:=by omega
      subst hn'
      rw [JK] at o'
      exact .inl ⟨wk.stop _ e2f,o' σ' H' xs' (.refl H') ha' hia' (Envs.fgt js E') r'⟩
  · rw [if_neg him] at o0
    exact o0.elim⟩
section
variable {X:Cx}
end
section
variable {X:Cx}
end
end FD
namespace ST
open PySem PySem.SetTable
abbrev Rise (xs:Array Nat):Prop:=xs.toList.Pairwise (· < ·)
theorem Rise.lt {xs:Array Nat} (R:Rise xs) {i k:Nat} (hi:i < xs.size) (hk:k < xs.size) (h:i < k):xs[i] < xs[k]:=by
 have:=JM.mp R i k (by simpa using hi) (by simpa using hk) h
 simpa using this
theorem Rise.le {xs:Array Nat} (R:Rise xs) {i k:Nat} (hi:i < xs.size) (hk:k < xs.size) (h:i≤k):xs[i]≤xs[k]:=by
 rcases Nat.lt_or_ge i k with h' | h'
 · exact KG (R.lt hi hk h')
 · have:i=k:=by omega
   subst this
   exact l_ _
theorem jw {xs:Array Nat} (R:Rise xs) (j:Nat):∀ (fuel lo hi:Nat),lo≤hi→hi≤xs.size→hi - lo≤fuel→(∀ i (h:i < xs.size),i < lo→xs[i] < j)→(∀ i (h:i < xs.size),hi≤i→j≤xs[i]) →
 (∀ i (h:i < xs.size),i < Mc xs j fuel lo hi→xs[i] < j)∧(∀ i (h:i < xs.size),Mc xs j fuel lo hi≤i→j≤xs[i])
 | 0,lo,hi,h1,h2,h3,a,b=>by
  unfold Mc
  have:lo=hi:=by omega
  subst this
  exact ⟨a,b⟩
 | fuel + 1,lo,hi,h1,h2,h3,a,b=>by
  unfold Mc
  split
  · rename_i hlt
    have hm:(lo + hi) / 2 < xs.size:=by omega
    dsimp only
    have hg:xs.getD ((lo + hi) / 2) j=xs[(lo + hi) / 2]:=by simp [Array.getD,hm]
    rw [hg]
    split
    · rename_i hc
      exact jw R j fuel _ hi (by omega) h2 (by omega) (fun i h hi'=>NP (R.le h hm (by omega)) hc) b
    · rename_i hc
      exact jw R j fuel lo _ (by omega) (by omega) (by omega) a fun i h hi'=>GG (Oq hc) (R.le hm h hi')
  · have:lo=hi:=by omega
    subst this
    exact ⟨a,b⟩
theorem iH {xs:Array Nat} (R:Rise xs) (j:Nat):(∀ i (h:i < xs.size),i < below xs j→xs[i] < j)∧(∀ i (h:i < xs.size),below xs j≤i→j≤xs[i]) :=
 jw R j xs.size 0 xs.size (GI _) (l_ _) (by omega) (fun i h hi=>absurd hi (Ie _)) fun i h hi=>absurd h (by omega)
theorem ui {xs:Array Nat} (R:Rise xs) {i j:Nat} (h:xs[i]?=some j):below xs j=i:=by
 obtain ⟨hi,e⟩:=GR.mp h
 obtain ⟨a,b⟩:=iH R j
 rcases Nat.lt_trichotomy (below xs j) i with q | q | q
 · have h1:=b (below xs j) (by omega) (l_ _)
   have h2:=R.lt (by omega) hi q
   omega
 · exact q
 · have h1:=a i hi q
   omega
theorem kn {t:SetTable} (R:Rise t.place) {i j:Nat} (h:t.place[i]?=some j):t.slot j=.live i:=by
 unfold O2
 dsimp only
 rw [ui R h,h]
 simp
theorem lN {t:SetTable} {n:Nat} (T:Tb t n) (R:Rise t.place) {j:Nat}:t.slot j≠.empty↔j∈t.place.toList:=by
 constructor
 · intro h
   rcases dF T j with q | ⟨i,_,e⟩
   · exact absurd q h
   · exact GU.mpr (KR e)
 · intro h
   obtain ⟨i,hi,e⟩:=JO h
   have:t.place[i]?=some j:=by
    rw [← Hu,n_ hi,e]
   rw [kn R this]
   intro z
   cases z
def tm (m:Nat):SetTable:={ mask:=m,place:=#[],dummies:=#[],finger:=0,led:=true,moves:=0,plain:=true }
theorem ko (t:SetTable):∀ (n:Nat) (p:Probe),advN t n p=advN (tm t.mask) n p
 | 0,p=>rfl
 | n + 1,p=>ko t n _
def pos (m:Nat) (h:Int) (n:Nat):Nat:=(advN (tm m) n ((tm m).probeStart h)).j
theorem nj (t:SetTable) (h:Int) (n:Nat):(advN t n (t.probeStart h)).j=pos t.mask h n:=by
 rw [ko]; rfl
def Pth (m:Nat) (l:List Nat) (h:Int) (j:Nat):Prop:=∃ N,N < 10 * K5 m∧pos m h N=j∧∀ x,x < N→pos m h x∈l
theorem Pth.mono {m:Nat} {l l':List Nat} {h:Int} {j:Nat} (p:Pth m l h j) (hs:∀ x∈l,x∈l'):Pth m l' h j:=by
 obtain ⟨N,h1,h2,h3⟩:=p
 exact ⟨N,h1,h2,fun x hx=>hs _ (h3 x hx)⟩
def asc (t:SetTable) (es:Array (Int×Value)):List (Nat×(Int×Value)):=t.place.toList.zip es.toList
def Pa (t:SetTable) (es:Array (Int×Value)):Prop:=∀ je∈asc t es,Pth t.mask t.place.toList je.2.1 je.1
theorem nk {α:Type} (xs:Array α) (p:Nat) (x:α) (h:p≤xs.size):(v_ xs p x).toList=xs.toList.take p ++ x :: xs.toList.drop p:=by
 rw [SetTable.toList_insertAt]
theorem xG {α β:Type} (a:List α) (b:List β) (p:Nat) (x:α) (y:β) (hl:a.length=b.length):(a.take p ++ x :: a.drop p).zip (b.take p ++ y :: b.drop p)=(a.zip b).take p ++ (x,y) :: (a.zip b).drop p:=by
 rw [List.zip_append (by simp [hl]),NQ]
 simp only [List.zip_eq_zipWith,List.take_zipWith,List.drop_zipWith]
theorem qK {α:Type} (l:List α) (p:Nat) (x y:α):y∈l.take p ++ x :: l.drop p↔y=x∨y∈l:=by
 rw [F_,p_]
 constructor
 · rintro (h | h | h)
   · exact .inr (List.mem_of_mem_take h)
   · exact .inl h
   · exact .inr (Nf h)
 · rintro (h | h)
   · exact .inr (.inl h)
   · rw [← List.take_append_drop p l,F_] at h
     rcases h with h | h
     · exact .inl h
     · exact .inr (.inr h)
theorem uj {t:SetTable} {n:Nat} (T:Tb t n) (R:Rise t.place) {es:Array (Int×Value)} (hs:es.size=n) {j:Nat} (hj:t.slot j=.empty) (e:Int×Value) :
 Rise (t.put j).1.place∧(∀ x,x∈(t.put j).1.place.toList↔x=j∨x∈t.place.toList)∧∀ x,x∈asc (t.put j).1 (v_ es (t.put j).2 e)↔x=(j,e)∨x∈asc t es:=by
 have hn:j ∉ t.place.toList:=fun h=>(lN T R).mpr h hj
 have hp:(t.put j).2=below t.place j:=rfl
 have hle:=ju t.place j
 have e1:(t.put j).1.place.toList=t.place.toList.take (below t.place j) ++ j :: t.place.toList.drop (below t.place j):=nk _ _ _ hle
 have e2:(v_ es (t.put j).2 e).toList=es.toList.take (below t.place j) ++ e :: es.toList.drop (below t.place j):=nk _ _ _ (by rw [hp,hs,← T.size]; exact hle)
 obtain ⟨a,b⟩:=iH R j
 refine ⟨?_,fun x=>by rw [e1]; exact qK _ _ _ _,fun x=>?_⟩
 · show (t.put j).1.place.toList.Pairwise (· < ·)
   rw [e1,JB,GF]
   have lo:∀ x∈t.place.toList.take (below t.place j),x < j:=by
    intro x hx
    obtain ⟨i,hi,e⟩:=JO hx
    rw [List.getElem_take] at e
    have h1:i < below t.place j∧i < t.place.size:=by simp only [K0,G0] at hi; omega
    have:=a i h1.2 h1.1
    rw [← e]
    simpa using this
   have hi':∀ x∈t.place.toList.drop (below t.place j),j < x:=by
    intro x hx
    have hm:=Nf hx
    obtain ⟨i,hi,e⟩:=JO hx
    rw [List.getElem_drop] at e
    have h1:below t.place j + i < t.place.size:=by simp only [Ms,G0] at hi; omega
    have:=b _ h1 (Nat.le_add_right _ _)
    have h2:j≤x:=by rw [← e]; simpa using this
    have:j≠x:=fun z=>hn (z ▸ hm)
    omega
   exact ⟨R.sublist (N9 _ _),⟨hi',R.sublist (List.drop_sublist _ _)⟩,fun x hx y hy=>by
    rcases p_.mp hy with rfl | hy
    · exact lo x hx
    · exact Lo (lo x hx) (hi' y hy)⟩
 · unfold asc
   rw [e1,e2,xG _ _ _ _ _ (by simp [T.size,hs])]
   exact qK _ _ _ _
theorem nn (t:SetTable):∀ (k:Nat) (p:Probe),k≤p.more→(advN t k p).j=p.j + k
 | 0,p,_=>rfl
 | k + 1,p,h=>by
  show (advN t k (t.advance p)).j=_
  rw [jt t p (by omega),nn t k _ (by show k≤p.more - 1; omega)]
  show p.j + 1 + k=p.j + (k + 1)
  omega
theorem oI {P:Nat→Bool}:∀ {n k:Nat},(h_ n).find? P=some k→k < n∧P k=true∧∀ x,x < k→P x=false:=by
 intro n k h
 have h1:=MS h
 have h2:=Gy.mp (LK h)
 refine ⟨h2,h1,fun x hx=>?_⟩
 rw [List.find?_eq_some_iff_append] at h
 obtain ⟨_,as,bs,e,hn⟩:=h
 have hk:as.length=k:=by
  have:=congrArg (fun l=>l[as.length]?) e
  simp only [Hh (l_ _),Nat.sub_self,List.getElem?_cons_zero] at this
  rw [xy] at this
  obtain ⟨q,r⟩:=this
  simpa using r
 have hxm:x∈as:=by
  have this:(h_ n)[x]?=(as ++ k :: bs)[x]?:=by rw [e]
  rw [HP (by omega),HM (by omega)] at this
  exact G6 this.symm
 have:=hn x hxm
 simpa using this
theorem kq {m:Nat} {owner:Array (Option Nat)}:∀ (fuel:Nat) (p:Probe) (j:Nat),p.j=p.i→p.more=KW m p.i - p.i→HF m owner fuel p.i p.perturb=some j →
 (owner.getD j (some 0)).isNone=true∧∃ N,N < 10 * fuel∧(advN (tm m) N p).j=j∧∀ x,x < N→(owner.getD (advN (tm m) x p).j (some 0)).isNone=false
 | 0,p,j,_,_,h=>by unfold HF at h; cases h
 | fuel + 1,p,j,hj,hm,h=>by
  have hr:=gI m p.i
  unfold HF at h
  have hlen:KW m p.i + 1 - p.i=p.more + 1:=by
   rw [hm]
   have:p.i≤KW m p.i:=by unfold KW; split <;> omega
   omega
  rw [hlen] at h
  split at h
  · rename_i k hk
    cases h
    obtain ⟨q1,q2,q3⟩:=oI hk
    refine ⟨q2,k,by omega,by rw [nn _ _ _ (by omega),hj],fun x hx=>?_⟩
    rw [nn _ _ _ (by omega),hj]
    exact q3 x hx
  · rename_i hk
    have hall:∀ x,x≤p.more→(owner.getD (p.i + x) (some 0)).isNone=false:=by
     intro x hx
     have:=Kf.mp hk x (Gy.mpr (by omega))
     rw [Bool.not_eq_true] at this
     exact this
    obtain ⟨r1,N,r2,r3,r4⟩:=kq fuel (iF (tm m) p) j rfl rfl h
    refine ⟨r1,p.more + 1 + N,by omega,by rw [bN,gJ _ _ _ rfl]; exact r3,fun x hx=>?_⟩
    by_cases hc:x≤p.more
    · rw [nn _ _ _ hc,hj]
      exact hall x hc
    · obtain ⟨y,rfl⟩:∃ y,x=p.more + 1 + y:=⟨x - (p.more + 1),by omega⟩
      rw [bN,gJ _ _ _ rfl]
      exact r4 y (by omega)
def xH (m:Nat) (owner:Array (Option Nat)) (hs:Nat→Option Int):Prop:=∀ j x,owner[j]?=some (some x)→∃ h,hs x=some h∧∃ N,N < 10 * K5 m∧pos m h N=j∧∀ y,y < N→(owner.getD (pos m h y) (some 0)).isNone=false∧pos m h y≤m
theorem AO (m:Nat) (h:Int):∀ n,pos m h n≤m:=by
 have key:∀ (n:Nat) (p:Probe),p.i≤m→p.j + p.more≤m→(advN (tm m) n p).j≤m:=by
  intro n
  induction n with
  | zero=>intro p _ h2; show p.j≤m; omega
  | succ n ih =>
   intro p h1 h2
   show (advN (tm m) n ((tm m).advance p)).j≤m
   by_cases hc:0 < p.more
   · rw [jt _ p hc]
     exact ih _ h1 (by show p.j + 1 + (p.more - 1)≤m; omega)
   · rw [jr _ p (by omega)]
     have hl:(Ji m p.i p.perturb).1≤m:=by
      show (p.i * 5 + 1 + p.perturb / 32) % (m + 1)≤m
      exact HK (Ke _ (Jd m))
     refine ih _ hl ?_
     show (Ji m p.i p.perturb).1 + (KW m (Ji m p.i p.perturb).1 - (Ji m p.i p.perturb).1)≤m
     unfold KW
     split <;> omega
 intro n
 have hb:bits h % (m + 1)≤m:=HK (Ke _ (Jd m))
 refine key n _ hb ?_
 show bits h % (m + 1) + (KW m (bits h % (m + 1)) - bits h % (m + 1))≤m
 unfold KW
 split <;> omega
theorem kr {m:Nat} {hf:Nat→Option Int}:∀ (hs:List Int) (owner o2:Array (Option Nat)) (k k2:Nat),owner.size=m + 1→(∀ i (h:i < hs.length),hf (k + i)=some hs[i])→xH m owner hf→hs.foldl (kj m) (some (owner,k))=some (o2,k2)→xH m o2 hf
 | [],owner,o2,k,k2,_,_,hP,e=>by cases e; exact hP
 | h :: hs,owner,o2,k,k2,hz,hh,hP,e=>by
  rw [Ix] at e
  have hnone:∀ (l:List Int),l.foldl (kj m) none=none:=fun l=>by
   induction l with
   | nil=>rfl
   | cons a l ih=>exact ih
  have hst:kj m (some (owner,k)) h=(HF m owner (K5 m) (bits h % (m + 1)) (bits h)).bind (fun j=>some (owner.setIfInBounds j (some k),k + 1)):=rfl
  cases hfr:HF m owner (K5 m) (bits h % (m + 1)) (bits h) with
  | none=>rw [hst,hfr] at e; rw [show (none:Option Nat).bind (fun j=>some (owner.setIfInBounds j (some k),k + 1))=none from rfl,hnone] at e; cases e
  | some j =>
   rw [hst,hfr] at e
   obtain ⟨f1,N,f2,f3,f4⟩:=kq (m:=m) (owner:=owner) (K5 m) ((tm m).probeStart h) j rfl rfl hfr
   obtain ⟨g1,g2⟩:=getD_none f1
   refine kr hs (owner.setIfInBounds j (some k)) o2 (k + 1) k2 (by rw [L_]; exact hz) (fun i hi=>by
    have:=hh (i + 1) (by simpa using hi)
    rw [show k + 1 + i=k + (i + 1) by omega]
    simpa using this) ?_ e
   have keep:∀ x,(owner.getD x (some 0)).isNone=false→((owner.setIfInBounds j (some k)).getD x (some 0)).isNone=false:=by
    intro x hx
    rw [GX] at hx ⊢
    rw [Lj]
    split
    · first
       | rfl
       | (split <;> rfl)
    · exact hx
   intro j' x hx
   rw [Lj] at hx
   split at hx
   · rename_i hjj
     subst hjj
     have hx:(some (some k):Option (Option Nat))=some (some x):=by
      first
       | exact hx
       | (rw [if_pos g1] at hx; exact hx)
     cases hx
     have h0:=hh 0 (by simp)
     refine ⟨h,by simpa using h0,N,f2,f3,fun y hy=>⟨keep _ (f4 y hy),AO m h y⟩⟩
   · obtain ⟨h',a1,N',a2,a3,a4⟩:=hP j' x hx
     exact ⟨h',a1,N',a2,a3,fun y hy=>⟨keep _ (a4 y hy).1,(a4 y hy).2⟩⟩
theorem jx {m:Nat} (hs:Array Int) {o2:Array (Option Nat)} (e:OS m hs=some o2):xH m o2 fun i=>hs[i]?:=by
 unfold OS at e
 rw [← NT] at e
 have e1:(ML (fun acc h=>do
  let (owner,k) ← acc
  let j ← HF m owner (K5 m) (bits h % (m + 1)) (bits h)
  pure (owner.setIfInBounds j (some k),k + 1)) (some (Iz (m + 1) none,0)) hs.toList:Option (Array (Option Nat)×Nat))=hs.toList.foldl (kj m) (some (Iz (m + 1) none,0)):=rfl
 rw [e1] at e
 cases hf:hs.toList.foldl (kj m) (some (Iz (m + 1) none,0)) with
 | none=>rw [hf] at e; cases e
 | some q =>
  rw [hf] at e
  cases e
  exact kr hs.toList (Iz (m + 1) none) q.1 0 q.2 (by simp) (fun i hi=>by
   have hi':i < hs.size:=by simpa using hi
   simp [hi']) (fun j x hx=>by
    rw [Array.getElem?_replicate] at hx
    split at hx <;> cases hx) hf
theorem qL {m finger moves:Nat} {led plain:Bool} (c:oE m=true) (es:Array (Int×Value)) (hl:es.size≤m) {t:SetTable} {order:Array Nat} (e:laid m finger moves led plain (es.map (·.1))=some (t,order)) :
 Rise t.place∧(∀ je∈asc t (order.filterMap (fun i=>es[i]?)),je.2∈es.toList)∧Pa t (order.filterMap (fun i=>es[i]?)):=by
 obtain ⟨o2,c1,c2,c3⟩:=gK c (es.map (·.1)) (by simpa using hl)
 have hp:=jx (es.map (·.1)) c1
 unfold laid at e
 rw [c1] at e
 cases e
 have hlive:∀ jk∈(h_ (m + 1)).filterMap fun j=>(o2.getD j none).map (j,·),o2[jk.1]?=some (some jk.2):=by
  intro jk hjk
  obtain ⟨j,hj,q⟩:=HU.mp hjk
  rw [Gq] at q
  obtain ⟨x,hx,rfl⟩:=q
  have hj':=Gy.mp hj
  rw [GX] at hx
  cases hg:o2[j]? with
  | none=>rw [hg] at hx; cases hx
  | some y=>rw [hg] at hx; have:y=some x:=hx; rw [← this]
 have hsome:∀ jk∈(h_ (m + 1)).filterMap fun j=>(o2.getD j none).map (j,·),∃ e,es[jk.2]?=some e:=by
  intro jk hjk
  obtain ⟨h,h1,_⟩:=hp _ _ (hlive jk hjk)
  dsimp only at h1
  rw [Il,Gq] at h1
  obtain ⟨e,he,_⟩:=h1
  exact ⟨e,he⟩
 have hin:∀ y,(o2.getD y (some 0)).isNone=false→y≤m→y∈((h_ (m + 1)).filterMap fun j=>(o2.getD j none).map (j,·)).map (·.1):=by
  intro y hy hle
  have hlt:y < o2.size:=by omega
  rw [GX,Hn hlt] at hy
  cases hv:o2[y] with
  | none=>rw [hv] at hy; simp at hy
  | some x =>
   refine Go.mpr ⟨(y,x),HU.mpr ⟨y,Gy.mpr (by omega),?_⟩,rfl⟩
   rw [GX,Hn hlt,hv]
   rfl
 generalize hL:((h_ (m + 1)).filterMap fun j=>(o2.getD j none).map (j,·))=L at *
 have hasc:∀ (l:List (Nat×Nat)),(∀ jk∈l,∃ e,es[jk.2]?=some e)→(l.map (·.1)).zip ((l.map (·.2)).filterMap fun i=>es[i]?)=l.filterMap fun jk=>(es[jk.2]?).map (jk.1,·):=by
  intro l
  induction l with
  | nil=>intro _; rfl
  | cons a l ih =>
   intro h
   obtain ⟨e,he⟩:=h a j_
   simp only [t_,IM,he,NQ,HN]
   rw [ih fun b hb=>h b (k_ _ hb)]
 have easc:asc { mask:=m,place:=(L.map (·.1)).toArray,dummies:=#[],finger:=finger,led:=led,moves:=moves,plain:=plain } (((L.map (·.2)).toArray).filterMap (fun i=>es[i]?))=L.filterMap fun jk=>(es[jk.2]?).map (jk.1,·):=by
  unfold asc
  rw [MN]
  exact hasc L hsome
 refine ⟨?_,fun je hje=>?_,fun je hje=>?_⟩
 · show (L.map (·.1)).toArray.toList.Pairwise (· < ·)
   rw [IL,← hL,Jr]
   refine List.Pairwise.filterMap _ (R:=(· < ·)) ?_ KH
   intro a a' hlt b hb b' hb'
   obtain ⟨x,_,rfl⟩:=Gq.mp hb
   obtain ⟨x',_,rfl⟩:=Gq.mp hb'
   exact hlt
 · rw [easc] at hje
   obtain ⟨jk,_,q⟩:=HU.mp hje
   obtain ⟨e,he,rfl⟩:=Gq.mp q
   exact GU.mpr (KR he)
 · rw [easc] at hje
   obtain ⟨jk,hjk,q⟩:=HU.mp hje
   obtain ⟨e,he,rfl⟩:=Gq.mp q
   obtain ⟨h,h1,N,h2,h3,h4⟩:=hp _ _ (hlive jk hjk)
   dsimp only at h1
   rw [Il,he] at h1
   cases h1
   refine ⟨N,h2,h3,fun x hx=>?_⟩
   show pos m e.1 x∈(L.map (·.1)).toArray.toList
   rw [IL]
   exact hin _ (h4 x hx).1 (h4 x hx).2
theorem nq (m:Nat):∀ (a b i:Nat),it m (a + b) i=it m b (it m a i)
 | 0,b,i=>by rw [Jc]; rfl
 | a + 1,b,i=>by rw [N7]; exact nq m a b (stp m i)
def orb (m:Nat):Nat→Nat→List Nat
 | 0,_=>[]
 | n + 1,i=>i :: orb m n (stp m i)
theorem vM (m:Nat):∀ (n i j:Nat),j∈orb m n i→∃ k,k < n∧it m k i=j
 | 0,_,_,h=>by simp [orb] at h
 | n + 1,i,j,h=>by
  rcases p_.mp h with rfl | h
  · exact ⟨0,by omega,rfl⟩
  · obtain ⟨k,h1,h2⟩:=vM m n _ j h
    exact ⟨k + 1,by omega,h2⟩
theorem xI:((h_ 128).all fun j=>(orb 127 128 0).contains j)=true:=by decide +kernel
theorem um:it 127 128 0=0:=by decide +kernel
theorem AQ:oE 127=true:=by
 have hit:∀ j,j < 128→∃ k,k < 128∧it 127 k 0=j:=fun j hj=>by
  have:=Gv.mp xI j (Gy.mpr hj)
  exact vM 127 128 0 j (by simpa using this)
 unfold oE
 refine Gv.mpr fun i hi=>Gv.mpr fun j hj=>Mu.mpr ?_
 obtain ⟨a,ha,ea⟩:=hit i (Gy.mp hi)
 obtain ⟨b,hb,eb⟩:=hit j (Gy.mp hj)
 by_cases hc:a≤b
 · refine ⟨b - a,Gy.mpr (by omega),?_⟩
   rw [← ea,← nq,show a + (b - a)=b by omega,eb]
   simp
 · refine ⟨128 - a + b,Gy.mpr (by omega),?_⟩
   rw [← ea,← nq,show a + (128 - a + b)=128 + b by omega,nq,um,eb]
   simp
theorem vN {t:SetTable} {n:Nat} (T:Tb t n) (hashAt:Nat→Int) (h:Int):∀ (N fuel:Nat) (p:Probe) (i0:Nat),Vp t p→N < fuel→t.slot (advN t N p).j=.live i0→(∀ k,k < N→t.slot (advN t k p).j≠.empty) →
 (∃ m i,m≤N∧t.slot (advN t m p).j=.live i∧t.place[i]?=some (advN t m p).j∧hashAt i=h∧Jw t hashAt h fuel p=some (.candidate (advN t m p).j i (advN t (m + 1) p)))∨hashAt i0≠h
 | N,0,p,i0,v,hf,_,_=>absurd hf (Ie _)
 | N,fuel + 1,p,i0,v,hf,he,hn=>by
  have hne:t.slot p.j≠.empty:=by
   cases N with
   | zero=>rw [show t.slot p.j=.live i0 from he]; intro z; cases z
   | succ N=>exact hn 0 (by omega)
  rcases dF T p.j with h0 | ⟨i,h1,h2⟩
  · exact absurd h0 hne
  · by_cases hh:hashAt i=h
    · refine .inl ⟨0,i,by omega,h1,h2,hh,?_⟩
      unfold Jw
      rw [h1]
      dsimp only
      rw [if_pos (by simpa using hh)]
      rfl
    · have hg:Jw t hashAt h (fuel + 1) p=Jw t hashAt h fuel (t.advance p):=by
       conv=>lhs; unfold Jw
       rw [h1]
       dsimp only
       rw [if_neg (by simpa using hh)]
      cases N with
      | zero =>
       have:i=i0:=by
        have e:t.slot p.j=.live i0:=he
        rw [h1] at e
        cases e; rfl
       subst this
       exact .inr hh
      | succ N =>
       rcases vN T hashAt h N fuel (t.advance p) i0 v.adv (by omega) he (fun k hk=>hn (k + 1) (by omega)) with ⟨m,i',q1,q2,q3,q4,q5⟩ | q
       · exact .inl ⟨m + 1,i',by omega,q2,q3,q4,by rw [hg,q5]; rfl⟩
       · exact .inr q
section
variable {prog:Program} {w:x_} {A:u_} {E:Value→c_→Prop} {s:c_}
theorem lO {S b:Addr} {o:Obj} {es:Array (Int×Value)} {ep:Nat} {t:SetTable} {ks:List (List Str)} {k:List Str} {h:Int} {adding:Bool} {Q:SetFound→c_→Prop} (hu:A.units < cLine)
 (ho:s.heap.get? S=some o) (hd:o.data=.set es ep t) (T:Tb t es.size) (hm:t.mask % 2=1) (hE:Ent prog w s.heap ks es.toList) (hx:TK prog w s.heap k b) (hk:k ∉ ks) :
 ∀ (N fuel:Nat) (st:Option Probe),(∀ p,st=some p→Vp t p)→N < fuel→t.slot (advN t N (st.getD (t.probeStart h))).j=.empty→(∀ m,m < N→t.slot (advN t m (st.getD (t.probeStart h))).j≠.empty)→N < 10 * K5 t.mask →
  Q (.free (advN t N (st.getD (t.probeStart h))).j false) s→m_ (pi prog w) A (IG S (.ref b) h adding fuel st) Q E s:=by
 intro N
 induction N using Nat.strongRecOn with
 | _ N ih =>
  intro fuel st hv hf he hn hN hQ
  cases fuel with
  | zero=>exact absurd hf (Ie _)
  | succ fuel =>
   have hfit:=fz T
   have v:Vp t (st.getD (t.probeStart h)):=by
    cases st with
    | none=>exact lK h
    | some p=>exact hv p rfl
   unfold IG
   refine b_ (Hr ho hd hfit ?_)
   dsimp only
   have hgw:t.gaveWay=false:=by unfold Oj; rw [hm]; rfl
   rw [hgw]
   simp only [i_,if_false]
   unfold OR
   rcases vJ T _ h N _ (st.getD (t.probeStart h)) v hN he hn with q | ⟨m,i,hmN,q1,q2,q3,q5⟩
   · rw [q]
     dsimp only
     exact d_ hQ
   · rw [q5]
     dsimp only
     have hi:i < es.size:=by
      have:=(GR.mp q2).1
      rw [T.size] at this
      exact this
     obtain ⟨k',a,hk',ea,ta⟩:=hE es[i] (GU.mpr (Ob hi))
     have hg:es[i]?=some (es[i].1,.ref a):=by rw [Hn hi,← ea]
     have rest:m_ (pi prog w) A (do
      let some (_,y):=es[i]? | LP "internal:set-entry"
      let equal ← OG [y] (eqBool y (.ref b))
      let (es',_,t') ← setState S
      if (adding && equal)=true then return OT none
      let some same:=t'.sameMemory t.moves t.mask | LP "set.changed-during-lookup:is-the-new-block-at-the-old-address"
      let still ← match (if same then t'.slot (advN t m (st.getD (t.probeStart h))).j else .empty) with
       | .live i'=>match es'[i']? with
        | some (_,y')=>do pure (if ← OK y' y then some i' else none)
        | none=>pure none
       | _=>pure none
      match still with
      | none=>rule "set.search.anew"; IG S (.ref b) h adding fuel none
      | some i'=>if equal then return .there (some i') else IG S (.ref b) h adding fuel (some (advN t (m + 1) (st.getD (t.probeStart h))))) Q E s:=by
      rw [hg]
      dsimp only
      refine b_ (GV (wpAny_eqBool_tuple hu ta hx ?_))
      have hne:decide (k'=k)=false:=decide_eq_false fun z=>hk (z ▸ hk')
      rw [hne]
      refine b_ (Hr ho hd hfit ?_)
      dsimp only
      rw [LJ]
      simp only [i_,if_false]
      have hsm:t.sameMemory t.moves t.mask=some true:=by unfold Nt; simp
      rw [hsm]
      dsimp only
      rw [if_pos rfl,q1]
      dsimp only
      rw [hg]
      dsimp only
      have hsame:OK (q_ a) (q_ a)=pure true:=by
       unfold OK
       dsimp only
       rw [if_pos (by simp)]
      rw [hsame]
      refine b_ (b_ (d_ (d_ ?_)))
      rw [if_pos rfl]
      refine ih (N - (m + 1)) (by omega) fuel (some (advN t (m + 1) (st.getD (t.probeStart h)))) (fun p hp=>by cases hp; exact Vp.advN (m + 1) v) (by omega) ?_ ?_ (by omega) (by
       show Q (.free (advN t (N - (m + 1)) (advN t (m + 1) (st.getD (t.probeStart h)))).j false) s
       rw [← bN,show m + 1 + (N - (m + 1))=N by omega]
       exact hQ)
      · show t.slot (advN t (N - (m + 1)) (advN t (m + 1) (st.getD (t.probeStart h)))).j=.empty
        rw [← bN,show m + 1 + (N - (m + 1))=N by omega]
        exact he
      · intro x hx'
        show t.slot (advN t x (advN t (m + 1) (st.getD (t.probeStart h)))).j≠.empty
        rw [← bN]
        exact hn _ (by omega)
     by_cases hled:t.led=true
     · rw [hled]
       simp only [IJ,i_,if_false]
       exact rest
     · have hled':t.led=false:=by simpa using hled
       rw [hled']
       simp only [JC,if_true]
       refine b_ (vL hx (fun v hv=>?_) ?_)
       · obtain ⟨e,he',rfl⟩:=Go.mp hv
         have hem:e∈es.toList:=by
          have:=GU.mp he'
          rw [Ov] at this
          exact GU.mpr this.1
         obtain ⟨k2,a2,_,e2,t2⟩:=hE e hem
         exact ⟨k2,a2,e2,t2⟩
       · simp only [i_,if_false]
         exact rest
theorem oJ {S b a0:Addr} {i0:Nat} {o:Obj} {es:Array (Int×Value)} {ep:Nat} {t:SetTable} {ks:List (List Str)} {k:List Str} {Q:SetFound→c_→Prop} (hu:A.units < cLine)
 (ho:s.heap.get? S=some o) (hd:o.data=.set es ep t) (T:Tb t es.size) (hm:t.mask % 2=1) (hE:Ent prog w s.heap ks es.toList) (hx:TK prog w s.heap k b) (hi0:es[i0]?=some (hsh prog w k,.ref a0)) (h0:TK prog w s.heap k a0) :
 ∀ (N fuel:Nat) (st:Option Probe),(∀ p,st=some p→Vp t p)→N < fuel→t.slot (advN t N (st.getD (t.probeStart (hsh prog w k)))).j=.live i0→(∀ m,m < N→t.slot (advN t m (st.getD (t.probeStart (hsh prog w k)))).j≠.empty)→N < 10 * K5 t.mask →
  Q (.there none) s→m_ (pi prog w) A (IG S (.ref b) (hsh prog w k) true fuel st) Q E s:=by
 intro N
 induction N using Nat.strongRecOn with
 | _ N ih =>
  intro fuel st hv hf he hn hN hQ
  cases fuel with
  | zero=>exact absurd hf (Ie _)
  | succ fuel =>
   have hfit:=fz T
   have v:Vp t (st.getD (t.probeStart (hsh prog w k))):=by
    cases st with
    | none=>exact lK (hsh prog w k)
    | some p=>exact hv p rfl
   unfold IG
   refine b_ (Hr ho hd hfit ?_)
   dsimp only
   have hgw:t.gaveWay=false:=by unfold Oj; rw [hm]; rfl
   rw [hgw]
   simp only [i_,if_false]
   unfold OR
   rcases vN T _ (hsh prog w k) N _ (st.getD (t.probeStart (hsh prog w k))) i0 v hN he hn with ⟨m,i,hmN,q1,q2,q3,q5⟩ | q
   · rw [q5]
     dsimp only
     have hi:i < es.size:=by
      have:=(GR.mp q2).1
      rw [T.size] at this
      exact this
     obtain ⟨k',a,hc,hg,ta⟩:∃ k' a,(k'=k∨m < N)∧es[i]?=some (es[i].1,.ref a)∧TK prog w s.heap k' a:=by
      by_cases hii:i=i0
      · subst hii
        refine ⟨k,a0,.inl rfl,?_,h0⟩
        rw [hi0]
        rw [Hn hi] at hi0
        rw [GL hi0]
      · obtain ⟨k',a,_,ea,ta⟩:=hE es[i] (GU.mpr (Ob hi))
        refine ⟨k',a,.inr ?_,by rw [Hn hi,← ea],ta⟩
        rcases Nat.lt_or_ge m N with z | z
        · exact z
        · have:m=N:=by omega
          subst this
          rw [q1] at he
          cases he
          exact absurd rfl hii
     have rest:m_ (pi prog w) A (do
      let some (_,y):=es[i]? | LP "internal:set-entry"
      let equal ← OG [y] (eqBool y (.ref b))
      let (es',_,t') ← setState S
      if (true && equal)=true then return OT none
      let some same:=t'.sameMemory t.moves t.mask | LP "set.changed-during-lookup:is-the-new-block-at-the-old-address"
      let still ← match (if same then t'.slot (advN t m (st.getD (t.probeStart (hsh prog w k)))).j else .empty) with
       | .live i'=>match es'[i']? with
        | some (_,y')=>do pure (if ← OK y' y then some i' else none)
        | none=>pure none
       | _=>pure none
      match still with
      | none=>rule "set.search.anew"; IG S (.ref b) (hsh prog w k) true fuel none
      | some i'=>if equal then return .there (some i') else IG S (.ref b) (hsh prog w k) true fuel (some (advN t (m + 1) (st.getD (t.probeStart (hsh prog w k)))))) Q E s:=by
      rw [hg]
      dsimp only
      refine b_ (GV (wpAny_eqBool_tuple hu ta hx ?_))
      by_cases hkk:k'=k
      · rw [decide_eq_true hkk]
        refine b_ (Hr ho hd hfit ?_)
        dsimp only
        rw [Bool.and_true]
        simp only [if_true]
        exact d_ hQ
      have hmN':m < N:=by
       rcases hc with z | z
       · exact absurd z hkk
       · exact z
      rw [decide_eq_false hkk]
      refine b_ (Hr ho hd hfit ?_)
      dsimp only
      rw [LJ]
      simp only [i_,if_false]
      have hsm:t.sameMemory t.moves t.mask=some true:=by unfold Nt; simp
      rw [hsm]
      dsimp only
      rw [if_pos rfl,q1]
      dsimp only
      rw [hg]
      dsimp only
      have hsame:OK (q_ a) (q_ a)=pure true:=by
       unfold OK
       dsimp only
       rw [if_pos (by simp)]
      rw [hsame]
      refine b_ (b_ (d_ (d_ ?_)))
      rw [if_pos rfl]
      refine ih (N - (m + 1)) (by omega) fuel (some (advN t (m + 1) (st.getD (t.probeStart (hsh prog w k))))) (fun p hp=>by cases hp; exact Vp.advN (m + 1) v) (by omega) ?_ ?_ (by omega) hQ
      · show t.slot (advN t (N - (m + 1)) (advN t (m + 1) (st.getD (t.probeStart (hsh prog w k))))).j=.live i0
        rw [← bN,show m + 1 + (N - (m + 1))=N by omega]
        exact he
      · intro x hx'
        show t.slot (advN t x (advN t (m + 1) (st.getD (t.probeStart (hsh prog w k))))).j≠.empty
        rw [← bN]
        exact hn _ (by omega)
     by_cases hled:t.led=true
     · rw [hled]
       simp only [IJ,i_,if_false]
       exact rest
     · have hled':t.led=false:=by simpa using hled
       rw [hled']
       simp only [JC,if_true]
       refine b_ (vL hx (fun v hv=>?_) ?_)
       · obtain ⟨e,he',rfl⟩:=Go.mp hv
         have hem:e∈es.toList:=by
          have:=GU.mp he'
          rw [Ov] at this
          exact GU.mpr this.1
         obtain ⟨k2,a2,_,e2,t2⟩:=hE e hem
         exact ⟨k2,a2,e2,t2⟩
       · simp only [i_,if_false]
         exact rest
   · exact absurd (show (es[i0]?.map (·.1)).getD 0=hsh prog w k by rw [hi0]; rfl) q
def SetD (prog:Program) (w:x_) (h:Heap) (S:Addr) (ks:List (List Str)) (n:Nat):Prop :=
 ∃ o es ep t,h.get? S=some o∧o.ExactSet∧o.data=.set es ep t∧es.size=n∧Tb t n∧((t.mask=7∧n≤4)∨(t.mask=31∧n≤18)∨(t.mask=127∧n≤20))∧Ent prog w h ks es.toList∧Rise t.place∧Pa t es∧∀ k∈ks,∃ a,(hsh prog w k,q_ a)∈es.toList∧TK prog w h k a
theorem xJ {S b:Addr} {ks:List (List Str)} {n:Nat} {k:List Str} {Q:Bool→c_→Prop} (hu:A.units < cLine) (hS:SetD prog w s.heap S ks n) (hx:TK prog w s.heap k b) (hk:k∈ks)
 (h:Q false s):m_ (pi prog w) A (Mx S (.ref b) (hsh prog w k)) Q E s:=by
 obtain ⟨o,es,ep,t,ho,hex,hd,hsz,T,hm,hE,R,hP,hA⟩:=hS
 have hfit:=fz T
 have hfit':t.fits es.size=true:=by rw [hsz]; exact hfit
 have hodd:t.mask % 2=1:=by rcases hm with ⟨e,_⟩ | ⟨e,_⟩ | ⟨e,_⟩ <;> rw [e]
 obtain ⟨a0,hmem,h0⟩:=hA k hk
 obtain ⟨i0,hi0,e0⟩:=JO hmem
 have hi1:i0 < es.size:=by simpa using hi0
 have hge:es[i0]?=some (hsh prog w k,q_ a0):=by
  rw [← Hu,n_ hi0,e0]
 have hpl:i0 < t.place.size:=by rw [T.size,← hsz]; exact hi1
 have hma:(t.place[i0],(hsh prog w k,q_ a0))∈asc t es:=by
  unfold asc
  refine G6 (i:=i0) ?_
  rw [List.getElem?_zip_eq_some]
  exact ⟨by simp [hpl],by rw [Hu]; exact hge⟩
 obtain ⟨N,h1,h2,h3⟩:=hP _ hma
 have hmk:t.mask≤127:=by rcases hm with ⟨e,_⟩ | ⟨e,_⟩ | ⟨e,_⟩ <;> omega
 unfold Mx setAddHashedIn
 refine GV (b_ (Hr ho hd hfit' ?_))
 dsimp only
 have hbs:byScan (q_ b) es=false:=by unfold byScan; rfl
 rw [hbs]
 simp only [i_,if_false]
 unfold setSearch
 refine b_ (oJ (ks:=ks) (a0:=a0) (i0:=i0) hu ho hd (by rw [hsz]; exact T) hodd hE hx hge h0 N 100000 none (fun p hp=>by cases hp) (by unfold K5 at h1; omega) ?_ ?_ h1 ?_)
 · show t.slot (advN t N (t.probeStart (hsh prog w k))).j=.live i0
   rw [nj,h2]
   exact kn R (by rw [Hn hpl])
 · intro m hmN
   show t.slot (advN t m (t.probeStart (hsh prog w k))).j≠.empty
   rw [nj]
   exact (lN T R).mpr (h3 m hmN)
 · exact d_ h
theorem gO {n:Nat} (h:n≤20):n≤sizeLine:=by rw [IV]; omega
theorem xK {S b:Addr} {ks:List (List Str)} {n:Nat} {k:List Str} {Q:Bool→c_→Prop} (hu:A.units < cLine) (hS:SetD prog w s.heap S ks n) (hx:TK prog w s.heap k b) (hk:k ∉ ks) (hn:n + 1≤20)
 (h:∀ h',Hl S s.heap h'→SetD prog w h' S (k :: ks) (n + 1)→Q true { s with heap:=h' }):m_ (pi prog w) A (Mx S (.ref b) (hsh prog w k)) Q E s:=by
 obtain ⟨o,es,ep,t,ho,hex,hd,hsz,T,hm,hE,R,hP,hA⟩:=hS
 have hfit:=fz T
 have hfit':t.fits es.size=true:=by rw [hsz]; exact hfit
 have hodd:t.mask % 2=1:=by rcases hm with ⟨e,_⟩ | ⟨e,_⟩ | ⟨e,_⟩ <;> rw [e]
 have hroom:n + 1≤t.mask:=by rcases hm with ⟨e,q⟩ | ⟨e,q⟩ | ⟨e,q⟩ <;> omega
 unfold Mx setAddHashedIn
 refine GV (b_ (Hr ho hd hfit' ?_))
 dsimp only
 have hbs:byScan (q_ b) es=false:=by unfold byScan; rfl
 rw [hbs]
 simp only [i_,if_false]
 unfold setSearch
 obtain ⟨N,h1,h2,h3⟩:=AG T (lK (t:=t) (hsh prog w k))
 have hmk:t.mask≤127:=by rcases hm with ⟨e,_⟩ | ⟨e,_⟩ | ⟨e,_⟩ <;> omega
 refine b_ (lO (ks:=ks) hu ho hd (by rw [hsz]; exact T) hodd hE hx hk N 100000 none (fun p hp=>by cases hp) (by unfold K5 at h1; omega) h2 h3 h1 ?_)
 dsimp only
 refine b_ (Hr ho hd hfit' ?_)
 dsimp only
 generalize hjj:(advN t N ((none:Option Probe).getD (t.probeStart (hsh prog w k)))).j=j
 have hje:t.slot j=.empty:=by rw [← hjj]; exact h2
 have hjp:pos t.mask (hsh prog w k) N=j:=by rw [← nj]; exact hjj
 obtain ⟨R2,hpl2,hasc2⟩:=uj T R hsz hje (hsh prog w k,q_ b)
 have hway:Pth t.mask (t.put j).1.place.toList (hsh prog w k) j:=⟨N,h1,hjp,fun x hx=>by
  rw [hpl2]
  refine .inr ((lN T R).mp ?_)
  rw [← nj]
  exact h3 x hx⟩
 have hP2:Pa (t.put j).1 (v_ es (t.put j).2 (hsh prog w k,q_ b)):=fun je hje'=>by
  rcases (hasc2 je).mp hje' with rfl | hq
  · exact hway
  · exact (hP je hq).mono fun x hx=>(hpl2 x).mpr (.inr hx)
 have hA2:∀ k'∈k :: ks,∃ a,(hsh prog w k',q_ a)∈(v_ es (t.put j).2 (hsh prog w k,q_ b)).toList∧TK prog w s.heap k' a:=by
  intro k' hk'
  have hmm:∀ e,e∈(v_ es (t.put j).2 (hsh prog w k,q_ b)).toList↔e∈(es.push (hsh prog w k,q_ b)).toList:=fun e=>(MD es (t.put j).2 (hsh prog w k,q_ b)).mem_iff
  rcases p_.mp hk' with rfl | hk'
  · exact ⟨b,(hmm _).mpr (by rw [LY]; simp),hx⟩
  · obtain ⟨a,q1,q2⟩:=hA k' hk'
    exact ⟨a,(hmm _).mpr (by rw [LY]; exact Gp _ q1),q2⟩
 obtain ⟨P1,P2,P3,P4,P5⟩:=AH T hroom j
 have go:∀ bv:Bool,m_ (pi prog w) A (do
  storeSet S (v_ es (t.put j).2 (hsh prog w k,.ref b)) (if bv then (t.put j).1 else { (t.put j).1 with plain:=false })
  if (!false && (if bv then (t.put j).1 else { (t.put j).1 with plain:=false }).tooFull)=true then setRelay S (Ly (es.size + 1))
  return true) Q E s:=by
  intro bv
  have T2:∃ t2,(if bv then (t.put j).1 else { (t.put j).1 with plain:=false })=t2∧Tb t2 (n + 1)∧t2.mask=t.mask∧Rise t2.place∧Pa t2 (v_ es (t.put j).2 (hsh prog w k,q_ b)):=by
   cases bv with
   | true=>exact ⟨_,rfl,P1,P3,R2,hP2⟩
   | false=>exact ⟨_,rfl,⟨P1.size,P1.dm,P1.cyc,P1.room⟩,P3,R2,hP2⟩
  obtain ⟨t2,e2,T2,M2,R2',hP2'⟩:=T2
  rw [e2]
  have hsz2:(v_ es (t.put j).2 (hsh prog w k,q_ b)).size=n + 1:=by
   rw [eR _ _ _ (by rw [hsz]; exact P2),hsz]
  refine b_ (wpAny_storeSet_of ho hd ?_ (by rw [hsz2]; exact gO hn))
  have hsb:=Ih s.heap S (Lz (v_ es (t.put j).2 (hsh prog w k,q_ b)) t2)
  have hg:=km (es':=v_ es (t.put j).2 (hsh prog w k,q_ b)) (t':=t2) ho hd
  have hE2:Ent prog w (s.heap.update S (Lz (v_ es (t.put j).2 (hsh prog w k,q_ b)) t2)) (k :: ks) (v_ es (t.put j).2 (hsh prog w k,q_ b)).toList:=(hE.insert hx).keeps ho hd hsb
  by_cases hf:t2.tooFull=true
  · rw [hf]
    simp only [JC,Bool.and_self,if_true]
    have hfl:t2.fill * 5 ≥ t2.mask * 3:=by unfold Oi at hf; simpa using hf
    rw [qH T2,M2] at hfl
    have h5:∃ m',sizeAbove (Ly (n + 1)) - 1=m'∧oE m'=true∧n + 1≤m'∧¬ (sizeAbove (Ly (n + 1)) > sizeLine)∧((m'=31∧n + 1≤18)∨(m'=127∧n + 1≤20)):=by
     rcases hm with ⟨e,q⟩ | ⟨e,q⟩ | ⟨e,q⟩
     · rw [e] at hfl
       have h4:n=4:=by omega
       subst h4
       exact ⟨31,by decide,D7,by omega,by rw [IV]; decide,.inl ⟨rfl,by omega⟩⟩
     · rw [e] at hfl
       have h4:n=18:=by omega
       subst h4
       exact ⟨127,by decide,AQ,by omega,by rw [IV]; decide,.inr ⟨rfl,by omega⟩⟩
     · rw [e] at hfl
       omega
    obtain ⟨m',s1,s2,s3,s4,s5⟩:=h5
    unfold setRelay
    refine b_ (b_ (Hr hg rfl (by rw [hsz2]; exact fz T2) ?_))
    dsimp only
    rw [hsz]
    rw [if_neg s4]
    have hrl:t2.relaid ((v_ es (t.put j).2 (hsh prog w k,q_ b)).map (·.1)) (Ly (n + 1))=laid m' t2.finger (t2.movedTo m') t2.led t2.plain ((v_ es (t.put j).2 (hsh prog w k,q_ b)).map (·.1)):=by
     unfold SetTable.relaid
     rw [s1]
    obtain ⟨t3,order,r1,r2,r3,r4,r5,r6,r7⟩:=xD (finger:=t2.finger) (moves:=t2.movedTo m') (led:=t2.led) (plain:=t2.plain) s2 ((v_ es (t.put j).2 (hsh prog w k,q_ b)).map (·.1)) (by rw [Ik,hsz2]; omega)
    rw [hrl,r1]
    obtain ⟨L1,L2,L3⟩:=qL s2 (v_ es (t.put j).2 (hsh prog w k,q_ b)) (by rw [hsz2]; omega) r1
    rw [Ik,hsz2] at r6 r7
    have hperm:(order.filterMap (fun i=>(v_ es (t.put j).2 (hsh prog w k,q_ b))[i]?)).toList.Perm (v_ es (t.put j).2 (hsh prog w k,q_ b)).toList:=by
     rw [MN]
     refine (r7.filterMap _).trans ?_
     rw [← hsz2,uh]
    have hsz3:(order.filterMap (fun i=>(v_ es (t.put j).2 (hsh prog w k,q_ b))[i]?)).size=n + 1:=by
     rw [← G0,hperm.length_eq,G0,hsz2]
    show m_ (pi prog w) A ((if ((order.filterMap (fun i=>(v_ es (t.put j).2 (hsh prog w k,q_ b))[i]?)).size != (v_ es (t.put j).2 (hsh prog w k,q_ b)).size)=true then (LP "internal:set-table-lost-an-element":Sem _) else pure (order.filterMap (fun i=>(v_ es (t.put j).2 (hsh prog w k,q_ b))[i]?),t3)) >>= fun x=>storeSet S x.1 x.2) _ _ _
    rw [if_neg (by rw [hsz3,hsz2]; simp)]
    refine b_ (d_ ?_)
    refine wpAny_storeSet_of hg rfl ?_ (by rw [hsz3]; exact gO hn)
    have hsb2:=Ih (s.heap.update S (Lz (v_ es (t.put j).2 (hsh prog w k,q_ b)) t2)) S (Lz (order.filterMap (fun i=>(v_ es (t.put j).2 (hsh prog w k,q_ b))[i]?)) t3)
    refine d_ (h _ (hsb.trans hsb2) ⟨_,_,_,t3,km hg rfl,hex,rfl,hsz3,r6,(by rw [r2]; exact .inr s5),?_,L1,L3,fun k' hk'=>?_⟩)
    · have hE3:=hE2.keeps hg rfl hsb2
      exact fun e he=>hE3 e (hperm.mem_iff.mp he)
    · obtain ⟨a,q1,q2⟩:=hA2 k' hk'
      exact ⟨a,hperm.mem_iff.mpr q1,(q2.keeps ho hd hsb).keeps hg rfl hsb2⟩
  · have hf':t2.tooFull=false:=by simpa using hf
    rw [hf']
    simp only [JC,LJ,i_,if_false]
    have hfl:¬ (t2.fill * 5 ≥ t2.mask * 3):=by unfold Oi at hf'; simpa using hf'
    rw [qH T2,M2] at hfl
    refine d_ (h _ hsb ⟨_,_,_,t2,hg,hex,rfl,hsz2,T2,?_,hE2,R2',hP2',fun k' hk'=>let ⟨a,q1,q2⟩:=hA2 k' hk'; ⟨a,q1,q2.keeps ho hd hsb⟩⟩)
    rw [M2]
    rcases hm with ⟨e,q⟩ | ⟨e,q⟩ | ⟨e,q⟩
    · exact .inl ⟨e,by omega⟩
    · exact .inr (.inl ⟨e,by omega⟩)
    · exact .inr (.inr ⟨e,hn⟩)
 cases hpl:(t.put j).1.plain with
 | true =>
  simp only [if_true]
  refine b_ (lM hx fun bv=>?_)
  exact go bv
 | false =>
  simp only [i_,if_false]
  refine b_ (d_ ?_)
  exact go true
end
end ST
namespace ST
open PySem PySem.SetTable PyProof.Rows
def oK {α:Type} [DecidableEq α] (acc:List α) (k:α):List α:=if k∈acc then acc else k :: acc
def ddk {α:Type} [DecidableEq α] (ks:List α):List α:=ks.foldl oK []
theorem uo {α:Type} [DecidableEq α] (acc:List α) (k:α):(oK acc k).length≤acc.length + 1:=by unfold oK; split <;> simp
theorem cW {α:Type} [DecidableEq α]:∀ (ks acc:List α),(ks.foldl oK acc).length≤acc.length + ks.length
 | [],acc=>l_ _
 | k :: ks,acc=>by
  have h1:=cW ks (oK acc k)
  have h2:=uo acc k
  rw [Ix,Gu]
  omega
theorem ddk_le {α:Type} [DecidableEq α] (ks:List α):(ddk ks).length≤ks.length:=by
 have:=cW ks []
 unfold ddk
 simpa using this
theorem fU {α:Type} [DecidableEq α]:∀ (ks acc:List α),(ks.foldl oK acc).length=acc.length + ks.length↔(ks.Nodup∧∀ k∈ks,k ∉ acc)
 | [],acc=>by simp
 | k :: ks,acc=>by
  rw [Ix,Gu]
  by_cases h:k∈acc
  · have h1:=cW ks acc
    have e:oK acc k=acc:=by unfold oK; rw [if_pos h]
    rw [e]
    constructor
    · intro q; omega
    · intro q; exact absurd h (q.2 k j_)
  · have e:oK acc k=k :: acc:=by unfold oK; rw [if_neg h]
    have ih:=fU ks (k :: acc)
    rw [e]
    rw [Gu] at ih
    rw [show acc.length + (ks.length + 1)=acc.length + 1 + ks.length by omega,ih,Hx]
    constructor
    · rintro ⟨h1,h2⟩
      refine ⟨⟨fun hm=>h2 k hm j_,h1⟩,fun x hx=>?_⟩
      rcases p_.mp hx with rfl | hx
      · exact h
      · exact fun z=>h2 x hx (k_ _ z)
    · rintro ⟨⟨h1,h2⟩,h3⟩
      refine ⟨h2,fun x hx z=>?_⟩
      rcases p_.mp z with rfl | z
      · exact h1 hx
      · exact h3 x (k_ _ hx) z
theorem ddk_eq {α:Type} [DecidableEq α] (ks:List α):(ddk ks).length=ks.length↔ks.Nodup:=by
 have:=fU ks []
 unfold ddk
 simpa using this
section
variable {prog:Program} {w:x_} {A:u_} {R:NK→c_→Prop} {I:Addr} {fp wr:List Addr} {G:Array LA→Array LA→Prop} {n:Nat} {P:Nat→Value→Prop} {St:Nat→c_→Prop}
theorem SetD.moved {h h':Heap} {S:Addr} {ks:List (List Str)} {n:Nat} (x:SetD prog w h S ks n) (hS:∀ o,h.get? S=some o→h'.get? S=some o) (hm:∀ k a,TK prog w h k a→TK prog w h' k a):SetD prog w h' S ks n:=by
 obtain ⟨o,es,ep,t,ho,hex,hd,hsz,T,hmk,hE,R,hP,hA⟩:=x
 exact ⟨o,es,ep,t,hS _ ho,hex,hd,hsz,T,hmk,fun e he=>let ⟨k,a,h1,h2,h3⟩:=hE e he; ⟨k,a,h1,h2,hm k a h3⟩,R,hP,fun k hk=>let ⟨a,q1,q2⟩:=hA k hk; ⟨a,q1,hm k a q2⟩⟩
theorem Eb (W:WalksS prog w A.in1 I fp wr G n P St) (S:Addr) (hSf:S ∉ fp) (hu:A.in1.units < cLine) (hwr:wr=[I]) (hI:∀ i s,St i s→∃ o vs,s.heap.get? I=some o∧o.data=.fields vs)
 (adr:Nat→Addr) (key:Nat→List Str) (hval:∀ i v,P i v→v=.ref (adr i)) (hn:n≤20) :
 ∀ (k i:Nat) (s:c_),n - i=k→i≤n→St i s→(∀ j,j < n→TK prog w s.heap (key j) (adr j)) →
  SetD prog w s.heap S (ddk ((h_ i).map key)) (ddk ((h_ i).map key)).length →
  (∀ s',Moved (S :: wr) G s s'→SetD prog w s'.heap S (ddk ((h_ n).map key)) (ddk ((h_ n).map key)).length→R (.ok (.ret .none)) s') →
  Kq (pi prog w) A (.builtin "set.update.loop" ⟨[.ref S,.ref I],[]⟩) R s:=by
 have hSw:S ∉ wr:=fun h=>hSf (W.sub _ h)
 have hsub:∀ b∈wr,b∈S :: wr:=fun b hb=>k_ _ hb
 have notI:∀ {i:Nat} {s:c_} {k:List Str} {a:Addr},St i s→TK prog w s.heap k a→a ∉ wr:=fun {i s k a} hst x hm=>by
  rw [hwr,Gr] at hm
  subst hm
  obtain ⟨o',items,n,ho',hc,hd',hi⟩:=x
  obtain ⟨o,vs,ho,hd⟩:=hI _ _ hst
  rw [ho] at ho'
  cases ho'
  rw [hd] at hd'
  cases hd'
 intro k
 induction k with
 | zero =>
  intro i s hk hi hst hT hS hR
  have hin:i=n:=by omega
  subst hin
  refine Le Mn ?_
  rw [Na IS _]
  show m_ _ A.in1 (Lb (.ref I) >>= _) _ _ s
  refine b_ (W.done s _ _ hst fun s' hm=>?_)
  show m_ _ A.in1 (ret GH) _ _ s'
  exact d_ (hR s' (hm.mono hsub) (hS.moved (fun o ho=>hm.heap S _ hSw ho) fun k' a x=>x.moved fun o ho=>hm.heap a _ (notI hst x) ho))
 | succ k ih =>
  intro i s hk hi hst hT hS hR
  have hlt:i < n:=by omega
  refine Le Mn ?_
  rw [Na IS _]
  show m_ _ A.in1 (Lb (.ref I) >>= _) _ _ s
  refine b_ (W.item i s _ _ hlt hst fun v s' hP hst' hm=>?_)
  have hv:=hval i v hP
  subst hv
  have hT':∀ j,j < n→TK prog w s'.heap (key j) (adr j):=fun j hj=>(hT j hj).moved fun o ho=>hm.heap _ _ (notI hst (hT j hj)) ho
  have hS':SetD prog w s'.heap S (ddk ((h_ i).map key)) (ddk ((h_ i).map key)).length:=hS.moved (fun o ho=>hm.heap S _ hSw ho) fun k' a x=>x.moved fun o ho=>hm.heap a _ (notI hst x) ho
  show m_ _ A.in1 (OG [q_ (adr i)] (setAdd S (.ref (adr i))) >>= _) _ _ s'
  refine b_ (GV ?_)
  unfold setAdd
  refine GV ?_
  refine b_ (wpAny_pyHash_tuple hu (hT' i hlt) ?_)
  have estep:ddk ((h_ (i + 1)).map key)=oK (ddk ((h_ i).map key)) (key i):=by
   unfold ddk
   rw [OD,GB,List.foldl_append]
   rfl
  have hle:(ddk ((h_ i).map key)).length≤i:=by
   have:=ddk_le ((h_ i).map key)
   simpa using this
  by_cases hold:key i∈ddk ((h_ i).map key)
  · refine xJ (s:={ s' with toks:=s'.toks + ((key i).length + 1) }) hu hS' (hT' i hlt) hold ?_
    have hS3:SetD prog w s'.heap S (ddk ((h_ (i + 1)).map key)) (ddk ((h_ (i + 1)).map key)).length:=by
     rw [estep]
     unfold oK
     rw [if_pos hold]
     exact hS'
    refine d_ ⟨plainId_quiet IS _,ih (i + 1) _ (by omega) hlt (W.frame _ s' _ _ hst' (by simp) fun b hb o e=>e) hT' hS3 fun s'' hm'' hS''=>?_⟩
    exact hR s'' (Moved.trans W.gtrans ((hm.mono hsub).then_heap (by simp) fun b o hb e=>e) hm'') hS''
  · refine xK (s:={ s' with toks:=s'.toks + ((key i).length + 1) }) hu hS' (hT' i hlt) hold (by omega) fun h' hsb hS2=>?_
    obtain ⟨oS,esS,epS,tS,hoS,_,hdS,_⟩:=hS'
    have hS3:SetD prog w h' S (ddk ((h_ (i + 1)).map key)) (ddk ((h_ (i + 1)).map key)).length:=by
     rw [estep]
     unfold oK
     rw [if_neg hold]
     exact hS2
    refine d_ ⟨plainId_quiet IS _,ih (i + 1) _ (by omega) hlt (W.frame _ s' _ _ hst' (by simp) fun b hb o e=>?_) (fun j hj=>(hT' j hj).keeps hoS hdS hsb) hS3 fun s'' hm'' hS''=>?_⟩
    · rw [hsb.2 b (fun h:b=S=>hSf (by rw [← h]; exact hb))]; exact e
    · refine hR s'' (Moved.trans W.gtrans ((hm.mono hsub).then_heap (by simp) fun b o hb e=>?_) hm'') hS''
      rw [hsb.2 b (fun h:b=S=>hb (by rw [h]; exact j_))]; exact e
end
section
variable {prog:Program} {w:x_} {A:u_} {E:Value→c_→Prop} {s:c_}
theorem uq {h:Heap} {S:Addr} {led:Bool} (e:h.get? S=some (oF led)):SetD prog w h S [] 0 :=
 ⟨_,#[],0,_,e,⟨rfl,rfl,rfl⟩,rfl,rfl,⟨rfl,rfl,Ga,GI _⟩,.inl ⟨rfl,by omega⟩,fun e he=>by simp at he,Jt,fun je hje=>(by simp [asc,SetTable.fresh] at hje),fun k hk=>(by simp at hk)⟩
theorem AR {led:Bool} {l:Addr} {items:Array Value} {key:Nat→List Str} {adr:Nat→Addr} {R:NK→c_→Prop} (hh:A.handled=none) (hu:A.units + 8 < cLine) (hl:s.heap.IsList l items)
 (hk:∀ i,i < items.size→items[i]?=some (.ref (adr i))∧TK prog w s.heap (key i) (adr i)) (hn:items.size≤20)
 (hR:∀ (h':Heap) (tk:Nat),SetD prog w h' s.heap.objs.size (ddk ((h_ items.size).map key)) (ddk ((h_ items.size).map key)).length→(∀ b o,b < s.heap.objs.size→s.heap.get? b=some o→h'.get? b=some o)→R (.ok (.ret .none)) { s with heap:=h',toks:=tk }) :
 Kq (pi prog w) A (.call (.builtin "set.__init__") ⟨[.ref s.heap.objs.size,.ref l],[]⟩) R { s with heap:=s.heap.push (oF led) }:=by
 have hS:(s.heap.push (oF led)).get? s.heap.objs.size=some (oF led):=r_ _ rfl
 have hT:Nz { s with heap:=s.heap.push (oF led) } (.ref s.heap.objs.size) "set":=⟨_,hS,rfl⟩
 refine K4 Ja.init.plain F.entry_set_init (check_set_init_1 hT ?_)
 obtain ⟨ol,hol,hcl,nl,hdl⟩:=hl
 obtain ⟨ocls,odict,odata,oslots⟩:=ol
 simp only at hcl hdl
 subst hcl; subst hdl
 have hol':(s.heap.push (oF led)).get? l=some { cls:=.type "list",dict:=odict,data:=.seq items nl,slots:=oslots }:=f_ _ hol
 have s1:=F.sub_list_set
 have s2:=F.sub_list_frozenset
 have s3:(GS "list" == GS "dict")=false:=by decide
 have hl1:(s.heap.push (oF led)).IsList l items:=⟨_,hol',rfl,nl,rfl⟩
 unfold K3.«set.__init__» noKeywords OC
 generalize hPI:pyIter=PI
 wp_walk
 subst hPI
 refine LL hl1 (b_ (wpAny_runValue ?_))
 have hlS:l < s.heap.objs.size:=o_ hol
 have hneI:l≠(s.heap.push (oF led)).objs.size:=by rw [Hd]; exact z_ (HJ hlS)
 have hSf:s.heap.objs.size ∉ [(s.heap.push (oF led)).objs.size,l]:=by
  rw [Hd]
  simp only [p_,G_,or_false,not_or]
  exact ⟨z_ (Op _),Ln hlS⟩
 have up:∀ {k:List Str} {a:Addr},TK prog w s.heap k a→TK prog w ((s.heap.push (oF led)).push { cls:=.type "list_iterator",data:=.fields #[.ref l,.int 0 0] }) k a:=fun x=>x.moved fun o e=>f_ _ (f_ _ e)
 refine Eb ((Walks.list (by simp [hh]) _ l hneI items).toS) s.heap.objs.size hSf (by show A.units + 1 + 1 < cLine; omega) rfl (fun i s' st=>by
  obtain ⟨⟨o,ho,_,hd⟩,_⟩:=st
  exact ⟨o,_,ho,hd⟩) adr key (fun i v hv=>?_) hn (items.size - 0) 0 _ (by omega) (GI _) ⟨⟨_,r_ _ rfl,rfl,rfl⟩,(hl1.push _)⟩ (fun j hj=>up (hk j hj).2) ?_ ?_
 · have hi:i < items.size:=(GR.mp hv).1
   have:=(hk i hi).1
   rw [this] at hv
   exact (GL hv).symm
 · exact uq (led:=led) (f_ _ hS)
 · intro s' hm hS'
   obtain ⟨h',g',d',tk',os'⟩:=s'
   have eg:g'=s.gens:=hm.gens
   have ed:d'=s.drawn:=hm.drawn
   have eo:os'=s.os:=hm.os
   subst eg; subst ed; subst eo
   show m_ _ _ _ _ _ _
   refine d_ ?_
   show m_ _ _ (ret GH) _ _ _
   refine d_ (hR h' tk' hS' fun b o hb e=>?_)
   have hb1:b≠s.heap.objs.size:=z_ hb
   have hb2:b≠(s.heap.push (oF led)).objs.size:=by rw [Hd]; exact z_ (HJ hb)
   exact hm.heap b o (by simp only [p_,G_,or_false,not_or]; exact ⟨hb1,hb2⟩) (f_ _ (f_ _ e))
theorem call_set_U {l:Addr} {items:Array Value} {key:Nat→List Str} {adr:Nat→Addr} {Q:Value→c_→Prop} (hh:A.handled=none) (hu:A.units + 16 < cLine) (hl:s.heap.IsList l items)
 (hk:∀ i,i < items.size→items[i]?=some (.ref (adr i))∧TK prog w s.heap (key i) (adr i)) (hn:items.size≤20)
 (h:∀ (h':Heap) (tk:Nat),SetD prog w h' s.heap.objs.size (ddk ((h_ items.size).map key)) (ddk ((h_ items.size).map key)).length→(∀ b o,b < s.heap.objs.size→s.heap.get? b=some o→h'.get? b=some o)→Q (.ref s.heap.objs.size) { s with heap:=h',toks:=tk }) :
 m_ (pi prog w) A (call (.type "set") [.ref l]) Q E s:=by
 obtain ⟨c,tl,hmro⟩:=Ja.mro
 have hmade:=Ja.made
 have hsub:=Ja.sub
 refine Lu (codeAny_of_tree ?_)
 show m_ _ _ (callAny (.type "set") _) _ _ _
 refine d_ ⟨NL _ (by decide +kernel),Le F.entry_type_call ?_⟩
 rw [Around.under_plain (weight_type_call_type "set" [.ref l] []) rfl]
 have h1:=Ja.notType
 have h2:=Ja.canCreate
 have hct:=F.typeCall_set_1 (.ref l)
 repeat (any_goals (first | assumption | wp_step))
 refine JE (code_set_new_1 (.ref l) (E:=E) (Q₁:=fun obj s₁=>∃ led:Bool,obj=.ref s.heap.objs.size∧s₁={ s with heap:=s.heap.push (oF led) }) fun led=>⟨led,rfl,rfl⟩) fun r s₁ hr=>?_
 cases r with
 | error e=>exact hr
 | ok fl =>
  cases fl with
  | ret obj =>
   obtain ⟨led,rfl,rfl⟩:=hr
   have hT:Nz { s with heap:=s.heap.push (oF led) } (.ref s.heap.objs.size) "set":=⟨_,r_ _ rfl,rfl⟩
   have hli:=Ja.init.lookup
   have hbi:=Ja.init.bind (.ref s.heap.objs.size)
   repeat (any_goals (first | assumption | wp_step))
   refine JE (AR (R:=wants (fun r s₂=>r=.none∧∃ h' tk,s₂={ s with heap:=h',toks:=tk }∧SetD prog w h' s.heap.objs.size (ddk ((h_ items.size).map key)) (ddk ((h_ items.size).map key)).length ∧
    (∀ b o,b < s.heap.objs.size→s.heap.get? b=some o→h'.get? b=some o)) E) (by simp [hh]) (by show A.units + 1 + 8 < cLine; omega) hl hk hn fun h' tk q1 q2=>⟨rfl,h',tk,rfl,q1,q2⟩) fun r₂ s₂ hr₂=>?_
   cases r₂ with
   | error e=>exact hr₂
   | ok fl₂ =>
    cases fl₂ with
    | ret r =>
     obtain ⟨rfl,h',tk,rfl,hS',hk'⟩:=hr₂
     repeat (any_goals (first | assumption | wp_step))
     exact h _ _ hS' hk'
    | _=>exact hr₂.elim
  | _=>exact hr.elim
theorem len_U {S:Addr} {ks:List (List Str)} {n:Nat} {Q:Value→c_→Prop} (hS:SetD prog w s.heap S ks n) (hn:n≤20) (h:∀ t tk,Q (.int n t) { s with toks:=tk }):m_ (pi prog w) A (call (.builtin "len") [.ref S]) Q E s:=by
 obtain ⟨o,es,ep,t,ho,hex,hd,hsz,T,hm,hE,_⟩:=hS
 subst hsz
 exact call_len_set ho hex hd (fz T) (Int.lt_of_le_of_lt (show ((es.size:Nat):Int)≤20 by omega) (by decide)) (h _ _)
end
end ST
namespace FD
open PySem PySem.Spec PyProof.Rows L2
def gQ:List Dv→Option (Rs Dv)
 | [.lst ds]=>match gM ds with
  | some ks=>if ks.length≤20 then some (.ok (.int (ST.ddk ks).length)) else none
  | none=>none
 | _=>none
theorem oM {α:Type} (ks:List α) (d:α) (n:Nat) (h:n=ks.length):(h_ n).map (fun i=>ks.getD i d)=ks:=by
 subst h
 apply KL
 intro i
 by_cases hi:i < ks.length
 · simp [hi]
 · simp [hi]
section
variable {X:Cx} {p p2 pos pos2:Pos} {e:Expr} {ga:FnA}
theorem oN (hu:X.A.units + 64 < cLine) (hc:X.calm=true) (hg:Gl X "len") (hm:X.mg "len"=none) (hg2:Gl X "set") (hm2:X.mg "set"=none) (ha:FA X [e] ga)
 (he:e_ [.Call (.Name "set" p2) [e] [] pos2] X.env=(false,eval (.Call (.Name "set" p2) [e] [] pos2) X.env) :: e_ [] X.env:=by kernel_rfl) (hpl:(GA pos (e_ [] X.env)).any (·.1)=false:=by kernel_rfl)
 (he2:e_ [e] X.env=(false,eval e X.env) :: e_ [] X.env:=by kernel_rfl) (hpl2:(GA pos2 (e_ [] X.env)).any (·.1)=false:=by kernel_rfl) :
 FE X (.Call (.Name "len" p) [.Call (.Name "set" p2) [e] [] pos2] [] pos) (fB1 gQ ga):=⟨fun pins s σ H Q I ⟨ρ,E,o⟩=>by
 refine HS (eG I hg hm ON ?_ (by decide) (by decide))
 refine KZ ?_ he hpl
 rw [he]
 show m_ _ _ (spliced ((false,eval (.Call (.Name "set" p2) [e] [] pos2) X.env) :: GA pos (e_ [] X.env))) _ _ s
 refine Jb ?_
 refine HS (eG I hg2 hm2 (u:=.type "set") (by decide +kernel) ?_ (by decide) (by decide))
 refine HE (thn (ha.h pos2 pins s σ H _ I ⟨ρ,E,OutA.bind o fun ds vs H1 e1 rs o1=>(show ∃ ds,Reps X.K H1 ds vs∧Out X H1 (gQ ds) Q from ⟨ds,rs,o1⟩)⟩) fun us s1 ⟨vs,H1,I1,r1,ds,rs,o1⟩=>?_) he2 hpl2
 unfold gQ at o1
 split at o1
 · rename_i es
   obtain ⟨v,rfl,r⟩:=dg rs
   obtain ⟨l,xs,rfl,hl,rx⟩:=r.lstE
   obtain ⟨u,rfl,ru⟩:=fq r1
   cases (show u=q_ l from ru)
   split at o1
   · rename_i ks hks
     split at o1
     · rename_i hnd
       obtain ⟨z,its,n,rv,hz,eh⟩:=I1.lstM hl
       obtain ⟨q1,q2⟩:=qI I1 hks rx rv
       have hsz:its.toArray.size=ks.length:=by simp [q1]
       refine ST.call_set_U (items:=its.toArray) (key:=fun i=>ks.getD i []) (adr:=fun i=>match its[i]? with | some (.ref a)=>a | _=>0) (I1.ok.hd hc) (by omega) ⟨_,eh,rfl,n,rfl⟩ (fun i hi=>?_) (by rw [hsz]; exact hnd) fun h' tk hS hkp=>?_
       · obtain ⟨a,e1,e2⟩:=q2 i (by simpa using hi)
         simp only [List.getElem?_toArray,e1]
         exact ⟨trivial,e2⟩
       · refine Kx ?_
         rw [oM ks [] _ hsz] at hS
         refine ST.len_U hS (GG (ST.ddk_le ks) hnd) fun t tk2=>⟨.int ((ST.ddk ks).length:Nat),H1,?_,⟨t,rfl⟩,o1 _ H1 (.refl H1) rfl⟩
         exact I1.kept (t':=tk2) fun b u q=>hkp b u (o_ q) q
     · exact o1.elim
   · exact o1.elim
 · exact o1.elim⟩
end
section
variable {prog:Program} {w:x_} {A:u_} {E:Value→c_→Prop} {s:c_}
end
section
variable {prog:Program} {w:x_} {A:u_} {E:Value→c_→Prop} {s:c_}
end
structure ZMt (z TI TO i1 i2 a b:Addr) (i:Nat) (h:Heap):Prop where
 z:IsZip h z TI TO .none
 ti:IsPair h TI (.ref i1) (.ref i2)
 to:∃ p q,IsPair h TO p q
 j1:h.IsTupleIter i1 a i
 j2:h.IsListIter i2 b i
def tC (X:Cx) (i:Nat) (fc:FnE):TS:=fun D σ H=>∃ ρ,Envs X.K H σ ρ∧match fc ρ with
 | none=>False
 | some (.exc c)=>XW X c H
 | some (.ok d)=>∃ ys,d=.lst ys∧∀ H5 p vs,Same H H5→H5 p=none→Reps X.K H5 ys vs→D.nx (σ.set i (some (.ref p))) (upd H5 p (.lst vs))
def Ec (a:Addr) (xs:List V) (D:mD):mD:=⟨fun σ H=>H a=none→D.nx σ (upd H a (.lst xs)),fun v H=>H a=none→D.rt v (upd H a (.lst xs)),fun σ H=>H a=none→D.bk σ (upd H a (.lst xs)),fun σ H=>H a=none→D.ct σ (upd H a (.lst xs))⟩
def Ed (t:TS):TS:=fun D σ Hf=>∃ H a xs,Hf=upd H a (.lst xs)∧H a=none∧t (Ec a xs D) σ H
theorem xL {X:Cx} {st:Stmt} (hex:X.ex=[]) {t:TS} (h:PS X st t):PS X st (Ed t):=by
 intro pins s σ Hf D I ⟨H,a,xs,e1,ha,q⟩
 subst e1
 obtain ⟨its,n,rv,hz,h0,hp,I'⟩:=Inv.untrack I ha hex
 refine thn (h _ s σ H _ I' q) fun f s' hs=>?_
 cases f with
 | next =>
  obtain ⟨σ',H',I2,q2⟩:=hs
  obtain ⟨ha',I3⟩:=Inv.retrack I2 rv hz h0 hp
  exact ⟨σ',_,I3,q2 ha'⟩
 | brk =>
  obtain ⟨σ',H',I2,q2⟩:=hs
  obtain ⟨ha',I3⟩:=Inv.retrack I2 rv hz h0 hp
  exact ⟨σ',_,I3,q2 ha'⟩
 | cont =>
  obtain ⟨σ',H',I2,q2⟩:=hs
  obtain ⟨ha',I3⟩:=Inv.retrack I2 rv hz h0 hp
  exact ⟨σ',_,I3,q2 ha'⟩
 | ret u =>
  obtain ⟨v,σ',H',I2,r,q2⟩:=hs
  obtain ⟨ha',I3⟩:=Inv.retrack I2 rv hz h0 hp
  exact ⟨v,σ',_,I3,r,q2 ha'⟩
section
variable {X:Cx} {i:Nat} {st:Stmt} {sts:List Stmt} {f:dJ} {fc:FnE}
theorem xM (hex:X.ex=[]) (j:Nat) (hij:i≠j) (h1:PS X st (tC X j fc)) (hl:∀ ρ d,fc ρ=some (.ok d)→∃ ys,d=.lst ys):FO1 X i st (cK j fc):=⟨fun pins s σ Hf D I ⟨H,a,xs,ρ,ds,e1,ha,hia,E,r,o⟩=>by
 refine xL hex h1 pins s σ Hf D I ⟨H,a,xs,e1,ha,ρ,E,?_⟩
 unfold cK at o
 match hfe:fc ρ with
 | none=>rw [hfe] at o; exact o.elim
 | some (.exc _)=>rw [hfe] at o; exact o.elim
 | some (.ok d) =>
  rw [hfe] at o
  obtain ⟨ys,rfl⟩:=hl ρ d hfe
  refine ⟨ys,rfl,fun H5 p vs e5 hp rs ha'=>?_⟩
  have e6:Same H (upd H5 p (.lst vs)):=e5.trans (au hp _)
  exact o _ _ xs e6 ha' (by rw [uk (Im hij)]; exact hia) ((E.mono e6).set ⟨p,vs,rfl,am,Reps.mono (au hp _) _ _ rs⟩) (Reps.mono e6 _ _ r)⟩
theorem gR {n:Nat} {cs:List (Str×Nat)} {src:FnA} {b:Dv→Ev→Option Ev} {tst:Option FnB} {fe:FnE} (ρ:Ev) (d:Dv) (h:aY n cs src b tst fe ρ=some (.ok d)):∃ ys,d=.lst ys:=by
 rcases DK h with ⟨c,e1,e2⟩ | ⟨ds,ys,e1,e2,l1,l2,e3⟩
 · cases e2
 · cases e3; exact ⟨ys,rfl⟩
end
def oO {α:Type} (le:α→α→Bool) (x:α):List α→List α
 | []=>[x]
 | y :: l=>if le x y then x :: y :: l else y :: oO le x l
def aF {α:Type} (le:α→α→Bool):List α→List α
 | []=>[]
 | x :: l=>oO le x (aF le l)
theorem eS {α:Type} (le:α→α→Bool) (x:α):∀ l:List α,(oO le x l).Perm (x :: l)
 | []=>.refl _
 | y :: l=>by
  unfold oO
  split
  · exact .refl _
  · exact ((eS le x l).cons y).trans (OY ..)
theorem aH {α:Type} (le:α→α→Bool):∀ l:List α,(aF le l).Perm l
 | []=>.refl _
 | x :: l=>(eS le x _).trans ((aH le l).cons x)
structure AS {α:Type} (le:α→α→Bool):Prop where
 t:∀ a b,le a b=false→le b a=true
 tr:∀ a b c,le a b=true→le b c=true→le a c=true
 an:∀ a b,le a b=true→le b a=true→a=b
theorem gS {α:Type} {le:α→α→Bool} (o:AS le) (x:α):∀ l:List α,l.Pairwise (fun a b=>le a b=true)→(oO le x l).Pairwise (fun a b=>le a b=true)
 | [],_=>by simp [oO]
 | y :: l,h=>by
  unfold oO
  rw [GF] at h
  split
  · rename_i hc
    rw [GF,GF]
    refine ⟨fun z hz=>?_,h⟩
    rcases p_.mp hz with rfl | hz
    · exact hc
    · exact o.tr _ _ _ hc (h.1 z hz)
  · rename_i hc
    rw [GF]
    refine ⟨fun z hz=>?_,gS o x l h.2⟩
    rcases p_.mp ((eS le x l).mem_iff.mp hz) with rfl | hz
    · exact o.t _ _ (by simpa using hc)
    · exact h.1 z hz
theorem cX {α:Type} {le:α→α→Bool} (o:AS le):∀ l:List α,(aF le l).Pairwise (fun a b=>le a b=true)
 | []=>Jt
 | x :: l=>gS o x _ (cX o l)
theorem dW {α:Type} {le:α→α→Bool} (o:AS le):∀ {l m:List α},l.Perm m→l.Pairwise (fun a b=>le a b=true)→m.Pairwise (fun a b=>le a b=true)→l=m
 | [],m,hp,_,_=>(List.Perm.nil_eq hp)
 | x :: l,[],hp,_,_=>by simpa using hp.length_eq
 | x :: l,y :: m,hp,h1,h2=>by
  rw [GF] at h1 h2
  have e:x=y:=by
   have hx:x∈y :: m:=hp.mem_iff.mp j_
   have hy:y∈x :: l:=hp.mem_iff.mpr j_
   rcases p_.mp hx with e | hx
   · exact e
   · rcases p_.mp hy with e | hy
     · exact e.symm
     · exact o.an _ _ (h1.1 y hy) (h2.1 x hx)
  subst e
  rw [dW o (hp.cons_inv) h1.2 h2.2]
def leI (a b:Int):Bool:=decide (a≤b)
def leS (a b:Str):Bool:=!decide (b.cps.toList < a.cps.toList)
theorem Ft:AS leI:=⟨fun a b h=>by simp [leI] at *; omega,fun a b c h h'=>by simp [leI] at *; omega,fun a b h h'=>by simp [leI] at *; omega⟩
theorem ordS:AS leS where
 t:=fun a b h=>by
  simp only [leS,Bool.not_eq_false',decide_eq_true_eq] at h
  simp only [leS,Ju,decide_eq_false_iff_not]
  exact fun h'=>Ng _ (NC h h')
 tr:=fun a b c h h'=>by
  simp only [leS,Ju,decide_eq_false_iff_not,Nd] at *
  exact List.le_trans h h'
 an:=fun a b h h'=>by
  simp only [leS,Ju,decide_eq_false_iff_not,Nd] at *
  have e:a.cps.toList=b.cps.toList:=Os h h'
  obtain ⟨⟨a⟩⟩:=a; obtain ⟨⟨b⟩⟩:=b
  simp at e
  rw [e]
def dO:List Dv→Option (List Int)
 | []=>some []
 | .int i :: r=>(dO r).map (i :: ·)
 | _=>none
def AT:List Dv→Option (Rs Dv)
 | [.lst ds]=>match dO ds with
  | some ns=>if ns.length < 64 then some (.ok (.lst ((aF leI ns).map Dv.int))) else none
  | none=>match aV ds with
   | some ss=>if ss.length < 64 then some (.ok (.lst ((aF leS ss).map Dv.str))) else none
   | none=>none
 | _=>none
section
variable {X:Cx} {pins:List (Addr×Obj)} {σ:L2.St} {H:Hp} {s:c_}
theorem nr {K:ck}:∀ {ds:List Dv} {ns:List Int} {ys:List V} {its:List Value},dO ds=some ns→Reps K H ds ys→Vals ys its→Np its ns
 | [],ns,ys,its,h,r,v=>by
  cases h
  cases (show ys=[] from r)
  cases v
  exact .nil
 | .int i :: ds,ns,ys,its,h,r,v=>by
  obtain ⟨y,us,rfl,r1,r2⟩:∃ v us,ys=v :: us∧Rep K H (.int i) v∧Reps K H ds us:=r
  cases (show y=.int i from r1)
  obtain ⟨k',h1,rfl⟩:=Gq.mp (show (dO ds).map (i :: ·)=some ns from h)
  cases v with
  | cons v1 v2 =>
   obtain ⟨t,rfl⟩:=v1
   exact .cons i t (nr h1 r2 v2)
 | .non :: ds,_,_,_,h,_,_=>by cases h
 | .bl _ :: ds,_,_,_,h,_,_=>by cases h
 | .str _ :: ds,_,_,_,h,_,_=>by cases h
 | .tup _ :: ds,_,_,_,h,_,_=>by cases h
 | .lst _ :: ds,_,_,_,h,_,_=>by cases h
 | .scr _ :: ds,_,_,_,h,_,_=>by cases h
 | .exn _ :: ds,_,_,_,h,_,_=>by cases h
theorem nu {K:ck}:∀ {ds:List Dv} {ns:List Str} {ys:List V} {its:List Value},aV ds=some ns→Reps K H ds ys→Vals ys its→StrsAre its ns
 | [],ns,ys,its,h,r,v=>by
  cases h
  cases (show ys=[] from r)
  cases v
  exact .nil
 | .str i :: ds,ns,ys,its,h,r,v=>by
  obtain ⟨y,us,rfl,r1,r2⟩:∃ v us,ys=v :: us∧Rep K H (.str i) v∧Reps K H ds us:=r
  cases (show y=.str i from r1)
  obtain ⟨k',h1,rfl⟩:=Gq.mp (show (aV ds).map (i :: ·)=some ns from h)
  cases v with
  | cons v1 v2 =>
   obtain ⟨t,rfl⟩:=v1
   exact .cons i t (nu h1 r2 v2)
 | .non :: ds,_,_,_,h,_,_=>by cases h
 | .bl _ :: ds,_,_,_,h,_,_=>by cases h
 | .int _ :: ds,_,_,_,h,_,_=>by cases h
 | .tup _ :: ds,_,_,_,h,_,_=>by cases h
 | .lst _ :: ds,_,_,_,h,_,_=>by cases h
 | .scr _ :: ds,_,_,_,h,_,_=>by cases h
 | .exn _ :: ds,_,_,_,h,_,_=>by cases h
theorem db:∀ {its:List Value} {ns:List Int},Np its ns→Vals (ns.map V.int) its
 | _,_,.nil=>.nil
 | _,_,.cons n t h=>.cons ⟨t,rfl⟩ (db h)
theorem iI:∀ {its:List Value} {ns:List Str},StrsAre its ns→Vals (ns.map V.str) its
 | _,_,.nil=>.nil
 | _,_,.cons n t h=>.cons ⟨t,rfl⟩ (iI h)
theorem ku {K:ck} (H:Hp):∀ ns:List Int,Reps K H (ns.map Dv.int) (ns.map V.int)
 | []=>rfl
 | n :: ns=>⟨_,_,rfl,rfl,ku H ns⟩
theorem iJ {K:ck} (H:Hp):∀ ns:List Str,Reps K H (ns.map Dv.str) (ns.map V.str)
 | []=>rfl
 | n :: ns=>⟨_,_,rfl,rfl,iJ H ns⟩
theorem kw:∀ (p:Str) (l:List Str),risingS p l=true→(p :: l).Pairwise (fun a b=>leS a b=true)
 | p,[],_=>by simp
 | p,x :: r,h=>by
  have h':(!ltCps x.cps.toList p.cps.toList)=true∧risingS x r=true:=by simpa [risingS] using h
  have ih:=kw x r h'.2
  have hx:leS p x=true:=by
   unfold leS
   rw [← ltCps_eq]
   exact h'.1
  rw [GF]
  refine ⟨fun z hz=>?_,ih⟩
  rw [GF] at ih
  rcases p_.mp hz with rfl | hz
  · exact hx
  · exact ordS.tr _ _ _ hx (ih.1 z hz)
theorem oP (l:List Str) (h:sortedS l=true):l.Pairwise (fun a b=>leS a b=true):=by
 cases l with
 | nil=>exact .nil
 | cons x r=>exact kw x r h
theorem line64 {n:Nat} (h:n < 64):n≤sizeLine:=by
 have:sizeLine=16777216:=by decide
 omega
theorem qM:CallR X (.builtin "sorted") (fun xs H Q=>∃ a ws ds,xs=[.ref a]∧H a=some (.lst ws)∧Reps X.K H ds ws ∧
 ((∃ ns,dO ds=some ns∧ns.length < 64∧∀ l,H l=none→Q (.ref l) (upd H l (.lst ((aF leI ns).map V.int)))) ∨
  (∃ ns,aV ds=some ns∧ns.length < 64∧∀ l,H l=none→Q (.ref l) (upd H l (.lst ((aF leS ns).map V.str)))))):=by
 intro pins s σ H xs us Q I r h
 obtain ⟨a,ws,ds,rfl,h1,h2,h3⟩:=h
 obtain ⟨u,rfl,ru⟩:=fq r
 cases ru
 obtain ⟨z,its,n,rv,hl,e⟩:=I.lstM h1
 rcases h3 with ⟨ns,hi,hlen,q⟩ | ⟨ns,hi,hlen,q⟩
 · have hI:=nr hi h2 rv
   have hn:=hI.length
   refine sorted_ints ⟨_,e,rfl,n,rfl⟩ hI (by omega) fun out ns' a1 a2 a3=>?_
   have es:ns'=aF leI ns:=dW Ft (a2.trans (aH leI ns).symm) (a3.imp fun h=>by simpa [leI] using h) (cX Ft ns)
   subst es
   obtain ⟨ep,he⟩:=sortedAll_at s.heap its out
   refine ⟨.ref (s.heap.objs.size + 1),_,I.laid (t':=s.toks) (o:=.lst ((aF leI ns).map V.int)) (fun b ob q=>sortedAll_old q) (IW _) ?_,rfl,q _ (I.hok.fresh (IW _))⟩
   exact ⟨line64 (by rw [Gw,(aH leI ns).length_eq]; exact hlen),out.toList,ep,db a1,by simpa [GM] using he⟩
 · have hI:=nu hi h2 rv
   have hn:its.length=ns.length:=by
    have:∀ {vs:List Value} {ss:List Str},StrsAre vs ss→vs.length=ss.length:=fun h=>by
     induction h with
     | nil=>rfl
     | cons _ _ _ ih=>simp [ih]
    exact this hI
   refine sorted_strs ⟨_,e,rfl,n,rfl⟩ hI (by omega) fun out ns' a1 a2 a3=>?_
   have es:ns'=aF leS ns:=dW ordS (a2.trans (aH leS ns).symm) (oP _ a3) (cX ordS ns)
   subst es
   obtain ⟨ep,he⟩:=sortedAll_at s.heap its out
   refine ⟨.ref (s.heap.objs.size + 1),_,I.laid (t':=s.toks) (o:=.lst ((aF leS ns).map V.str)) (fun b ob q=>sortedAll_old q) (IW _) ?_,rfl,q _ (I.hok.fresh (IW _))⟩
   exact ⟨line64 (by rw [Gw,(aH leS ns).length_eq]; exact hlen),out.toList,ep,iI a1,by simpa [GM] using he⟩
end
section
variable {X:Cx} {p pos:Pos} {e:Expr} {es:List Expr} {ga:FnA}
end
section
variable {X:Cx} {p pos:Pos} {e:Expr} {es:List Expr} {ga:FnA}
end
section
variable {X:Cx} {p pos:Pos} {e:Expr} {es:List Expr} {ga:FnA}
end
section
variable {prog:Program} {w:x_} {A:u_} {E:Value→c_→Prop} {s:c_}
theorem ur {e it l:Addr} {i:Nat} {vs:Array Value} {x old:Value} {Q:Option Value→c_→Prop} (ge:M9 s.heap e it i old) (gi:s.heap.IsTupleIter it l i) (gt:s.heap.IsTuple l vs) (gx:vs[i]?=some x) (ne:e≠it)
 (q:∀ h',IsEnumOut h' e it ((i:Int) + 1) x s.heap.objs.size→h'.IsTupleIter it l (i + 1)→h'.get? s.heap.objs.size=some { cls:=.type "tuple",data:=.seq #[.int i s.toks,x] }→h'.objs.size=s.heap.objs.size + 1 →
   (∀ b o,b≠e→b≠it→s.heap.get? b=some o→h'.get? b=some o)→Q (some (.ref s.heap.objs.size)) { s with heap:=h',toks:=s.toks + 1 }):m_ (pi prog w) A (Lb (.ref e)) Q E s:=by
 obtain ⟨hp,g,d,tk,os⟩:=s
 have ty:Nz ⟨hp,g,d,tk,os⟩ (.ref e) "enumerate":=⟨_,ge,rfl⟩
 unfold Lb; refine b_ (IE (G3 (name:=a_ "__next__") ty Jm (G9 Jm ty MG ?_ (Mh _))))
 show m_ _ _ (OL (.ref e) 2 >>= _) _ _ _; refine b_ (Hs ge rfl (x:=.ref it) rfl ?_)
 refine b_ (oG gi gt gx fun hA iA sA=>?_)
 have sA':Hl it hp hA:=sA
 have gA:M9 hA e it i old:=(sA'.2 e ne).trans ge
 show m_ _ _ (OL (.ref e) 3 >>= _) _ _ ⟨hA,g,d,tk,os⟩; refine b_ (Hs gA rfl (x:=KU i) rfl ?_)
 show m_ _ _ (OL (.ref e) 4 >>= _) _ _ ⟨hA,g,d,tk,os⟩; refine b_ (Hs gA rfl (x:=.none) rfl ?_)
 show m_ _ _ (mkInt i >>= _) _ _ ⟨hA,g,d,tk,os⟩; refine b_ (wpAny_mkInt ?_)
 show m_ _ _ (OJ (.ref e) 3 (KU ((i:Int) + 1)) >>= _) _ _ ⟨hA,g,d,tk + 1,os⟩; refine b_ (IY gA (by simp) fun hB gB sB=>?_)
 have sB':Hl e hA hB:=sB
 have gB':M9 hB e it ((i:Int) + 1) old:=gB
 show m_ _ _ (OJ (.ref e) 4 .none >>= _) _ _ ⟨hB,g,d,tk + 1,os⟩; refine b_ (IY gB' (by simp) fun hC gC sC=>?_)
 have sC':Hl e hB hC:=sC
 have gC':M9 hC e it ((i:Int) + 1) old:=gC
 show m_ _ _ (newTuple [.int i tk,x] >>= _) _ _ ⟨hC,g,d,tk + 1,os⟩; refine b_ (MY ?_)
 obtain ⟨hD,eD⟩:∃ hD,hD=hC.push { cls:=.type "tuple",data:=.seq #[.int i tk,x] }:=⟨_,rfl⟩
 have gD:M9 hD e it ((i:Int) + 1) old:=by rw [eD]; exact f_ _ gC'
 have zC:hC.objs.size=hp.objs.size:=by rw [sC'.1,sB'.1,sA'.1]
 have le:e < hp.objs.size:=o_ ge
 have tD:hD.get? hp.objs.size=some { cls:=.type "tuple",data:=.seq #[.int i tk,x] }:=by rw [eD,← zC]; exact r_ _ rfl
 have zD:hD.objs.size=hp.objs.size + 1:=by rw [eD,Hd,zC]
 have kD:∀ b o,b≠e→b≠it→hp.get? b=some o→hD.get? b=some o:=fun b o be bi gb=>by rw [eD]; exact f_ _ (sC'.extBut b o be (sB'.extBut b o be (sA'.extBut b o bi gb)))
 have iD:hD.IsTupleIter it l (i + 1):=by rw [eD]; exact ((iA.extBut sB'.extBut ne.symm).extBut sC'.extBut ne.symm).at fun o go=>f_ _ go
 show m_ _ _ (JS (.ref e) >>= _) _ _ ⟨hC.push { cls:=.type "tuple",data:=.seq #[.int i tk,x] },g,d,tk + 1,os⟩
 rw [← eD,zC]; refine b_ ?_; unfold JS; refine b_ (Hs gD rfl (x:=.none) rfl (d_ ?_)); simp only [if_true]
 refine b_ (J0 (b_ (Hs gD rfl (x:=old) rfl (b_ (IY gD (by simp) fun hE gE sE=>?_)))))
 have sE':Hl e hD hE:=sE
 have gE':M9 hE e it ((i:Int) + 1) x:=gE
 show m_ _ _ (JN (.ref e) (.ref hp.objs.size) >>= _) _ _ ⟨hE,g,d,tk + 1,os⟩; refine b_ ?_; unfold JN
 refine b_ (IY gE' (by simp) fun hF gF sF=>?_)
 have sF':Hl e hE hF:=sF
 have gF':IsEnumOut hF e it ((i:Int) + 1) x hp.objs.size:=gF
 refine IY gF' (by simp) fun hG gG sG=>?_
 have sG':Hl e hF hG:=sG
 have up:∀ b o,b≠e→hD.get? b=some o→hG.get? b=some o:=fun b o be gb=>sG'.extBut b o be (sF'.extBut b o be (sE'.extBut b o be gb))
 refine b_ (wpAny_letGo (d_ ⟨_,rfl,d_ (q hG gG (iD.at fun o go=>up _ o ne.symm go) (up _ _ (Ln le) tD) (by rw [sG'.1,sF'.1,sE'.1,zD]) fun b o be bi gb=>up b o be (kD b o be bi gb))⟩))
theorem xN {e it l:Addr} {i:Nat} {vs:Array Value} {old:Value} {Q:Option Value→c_→Prop} (hh:A.handled=none) (ge:M9 s.heap e it i old) (gi:s.heap.IsTupleIter it l i) (gt:s.heap.IsTuple l vs) (gx:vs[i]?=none)
 (q:∀ h',Oy it s.heap h'→Q none { s with heap:=h' }):m_ (pi prog w) A (Lb (.ref e)) Q E s:=by
 have ty:s.TypeIs (.ref e) "enumerate":=⟨_,ge,rfl⟩
 unfold Lb; refine b_ (IE (G3 (name:=a_ "__next__") ty Jm (G9 Jm ty MG ?_ (Mh _))))
 show m_ _ _ (OL (.ref e) 2 >>= _) _ _ _; refine b_ (Hs ge rfl (x:=.ref it) rfl ?_)
 refine b_ (qJ hh gi gt gx fun h' y ke ky=>?_)
 obtain ⟨o,go,co⟩:=ky
 exact b_ (wpAny_isInstance (T:="StopIteration") (b:=true) ⟨o,go,co⟩ isSubtype_stop (d_ (q _ ke)))
end
theorem xO (l:Addr) (vs:Array Value) :
 Meets (K3.«enumerate.__new__» ⟨[.type "enumerate",.ref l],[]⟩) (fun _ R s=>s.heap.IsTuple l vs∧R (.ok (.ret (.ref (zq1 s.heap l).objs.size))) { s with heap:=(zq1 s.heap l).push { cls:=.type "enumerate",data:=.fields #[.none,.bool false,.ref s.heap.objs.size,KU 0,.none,.none] } }) :=
 .of_wp fun prog w A R s h=>by
  obtain ⟨hp,g,d,tk,os⟩:=s; obtain ⟨m1,h⟩:=h
  have hsub:=sub_enumerate
  have t1:Heap.IsTuple (Shared.heap ⟨hp,g,d,tk,os⟩) l vs:=m1
  wp_walk
  refine wpAny_stack_any fun st=>d_ ?_
  split
  · rename_i c _ _ _ _ _
    cases (c == GS "enumerate") <;> (wp_walk using J_ t1; exact ⟨_,rfl,h⟩)
  · wp_walk using J_ t1; exact ⟨_,rfl,h⟩
section
variable {prog:Program} {w:x_} {A:u_} {E:Value→c_→Prop} {s:c_}
theorem ut {l:Addr} {vs:Array Value} {Q:Value→c_→Prop} (m1:s.heap.IsTuple l vs)
 (q:∀ h',M9 h' (s.heap.objs.size + 1) s.heap.objs.size 0 .none→h'.IsTupleIter s.heap.objs.size l 0→(∀ b o,s.heap.get? b=some o→h'.get? b=some o)→Q (.ref (s.heap.objs.size + 1)) { s with heap:=h' }) :
 m_ (pi prog w) A (call (.type "enumerate") [.ref l]) Q E s:=by
 have n1:(zq1 s.heap l).objs.size=s.heap.objs.size + 1:=Hd ..
 refine callType_new F.called_enumerate (by decide) (F.typeCall_enumerate_1 _) (F.newCall_enumerate_1 _) (fun obj=>F.args_object_init_2 obj _) F.entry_enumerate_new (xO l vs) ⟨m1,?_⟩
 have g2:((zq1 s.heap l).push { cls:=.type "enumerate",data:=.fields #[.none,.bool false,.ref s.heap.objs.size,KU 0,.none,.none] }).get? (zq1 s.heap l).objs.size=some _:=r_ _ rfl
 have g1:((zq1 s.heap l).push { cls:=.type "enumerate",data:=.fields #[.none,.bool false,.ref s.heap.objs.size,KU 0,.none,.none] }).get? s.heap.objs.size=some _:=f_ _ (r_ _ rfl)
 show _∧_
 rw [n1] at g2 ⊢
 exact ⟨⟨_,g2,rfl⟩,q _ g2 ⟨_,g1,rfl,rfl⟩ fun c o g=>f_ _ (f_ _ g)⟩
end
def ItE (K:ck) (a:Addr):It :=
 ⟨fun i H=>∃ xs x,H a=some (.tup xs)∧xs[i]?=some x,fun i H v H'=>∃ p x,v=.ref p∧H p=none∧H'=upd H p (.tup [.int i,x])∧∀ xs,H a=some (.tup xs)→xs[i]?=some x,fun i H=>∃ xs,H a=some (.tup xs)∧xs.length≤i⟩
theorem uu {P:Program} {w:x_} {K:ck} {es:List Expr} {k:Nat} {pos:Pos} (a e it:Addr) (hne:e≠it):vi P w K (.Tuple es k pos) (ItE K a) [e,it] e (fun i h=>(∃ old,M9 h e it i old)∧h.IsTupleIter it a i) where
 mem:=by simp
 obj:=fun i h st b hb=>by
  obtain ⟨⟨old,he⟩,o,e2,c,d⟩:=st
  have hb':b=e∨b=it:=by simpa using hb
  rcases hb' with rfl | rfl
  · exact ⟨_,he,fun v z=>by cases z⟩
  · exact ⟨o,e2,fun v z=>by rw [d] at z; cases z⟩
 keep:=fun i h h' st kk=>by
  obtain ⟨⟨old,he⟩,st2⟩:=st
  exact ⟨⟨old,kk e (by simp) _ he⟩,st2.at fun o ee=>kk it (by simp) o ee⟩
 item:=by
  intro X hP hw hK hc i pins s σ H E I hf st hg
  subst hP hw hK
  obtain ⟨xs,x,hq,hx⟩:=hg
  obtain ⟨its,rv,p,hz⟩:=I.tuple (SqT.of hq)
  obtain ⟨u,hu,ru⟩:=rv.get hx
  obtain ⟨⟨old,he⟩,st2⟩:=st
  obtain ⟨f0,f1,f2,f3,f4,f5⟩:=hf e (by simp)
  obtain ⟨g0,g1,g2,g3,g4,g5⟩:=hf it (by simp)
  refine ur he st2 (show s.heap.IsTuple a its.toArray from p) (x:=u) (by simpa using hu) hne fun h' eo st' tp sz kk=>?_
  refine ⟨_,rfl,wpAny_letOwnedTupleGo_enum eo fun h2 he2 sb2=>?_⟩
  have hp:H s.heap.objs.size=none:=I.hok.fresh (l_ _)
  have elt:e < s.heap.objs.size:=o_ he
  have k2:∀ b o,b ∉ [e,it]→s.heap.get? b=some o→h2.get? b=some o:=fun b o hb q=>sb2.extBut b o (fun z=>hb (by simp [z])) (kk b o (fun z=>hb (by simp [z])) (fun z=>hb (by simp [z])) q)
  have tp2:h2.get? s.heap.objs.size=some { cls:=.type "tuple",data:=.seq #[.int i s.toks,u] }:=sb2.extBut _ _ (Ln elt) tp
  have I1:Inv X pins σ (upd H s.heap.objs.size (.tup [.int i,x])) { s with heap:=h2,toks:=s.toks + 1 }:=by
   have nt:∀ b u,H b=some u→b ∉ [e,it]:=fun b u q z=>by
    have z':b=e∨b=it:=by simpa using z
    rcases z' with rfl | rfl
    · rw [f0] at q; cases q
    · rw [g0] at q; cases q
   refine I.step (g':=s.gens) (d':=s.drawn) (ch:=[e,it]) (fun b hb=>?_) (fun b o _ _ hcb q _=>k2 b o hcb q) (fun b o _ _ hcb q _=>⟨o.slots,k2 b o hcb q⟩) (fun b o hcb q n=>?_) (fun b o hcb q=>⟨o,k2 b o hcb q⟩)
    (fun b ys q=>by rw [ao (ar q hp)]; exact q) (fun b o ys q=>by rw [ao (ar q hp)]; exact q) (fun b ps q=>⟨#[],by rw [ao (ar q hp),q]; simp⟩) (fun m hm=>?_) (fun b u2 q=>?_) I.bare
   · have z':b=e∨b=it:=by simpa using hb
     rcases z' with rfl | rfl
     · exact ⟨f3,f1,f4,f5⟩
     · exact ⟨g3,g1,g4,g5⟩
   · rw [ao (z_ (o_ q))]; exact n
   · obtain ⟨o,es',ep,ho,r⟩:=hm
     exact ⟨o,es',ep,k2 _ o (fun z=>by
      have z':X.env.locals=e∨X.env.locals=it:=by simpa using z
      rcases z' with z' | z'
      · exact f1 z'.symm
      · exact g1 z'.symm) ho,r⟩
   · by_cases hb:b=s.heap.objs.size
     · subst hb
       rw [am] at q
       cases q
       exact ⟨by show 2≤sizeLine; decide,[.int i s.toks,u],.cons ⟨_,rfl⟩ (.cons ru .nil),⟨_,tp2,rfl,_,rfl⟩⟩
     · rw [ao hb] at q
       refine (I.hok b u2 q).stay (fun c v hcv qq=>k2 c v ?_ qq) (fun c qq=>by rw [ao (ar qq hp)]; exact qq) fun c ys qq=>by rw [ao (ar qq hp)]; exact qq
       rcases hcv with rfl | hcv
       · exact nt _ _ q
       · exact nt _ _ hcv
  refine ⟨.ref s.heap.objs.size,_,I1,rfl,⟨_,x,rfl,hp,rfl,fun zs hy=>by rw [hq] at hy; cases hy; exact hx⟩,⟨⟨_,by simpa using he2⟩,?_⟩,fun b hb=>?_⟩
  · exact st'.at fun o q=>sb2.extBut _ _ (Im hne) q
  · have z':b=e∨b=it:=by simpa using hb
    rcases z' with rfl | rfl
    · rw [ao (z_ elt)]; exact f0
    · obtain ⟨o,q,_⟩:=id st2
      rw [ao (z_ (o_ q))]; exact g0
 done:=by
  intro X hP hw hK hc i pins s σ H E I hf st hg
  subst hP hw hK
  obtain ⟨xs,hq,hx⟩:=hg
  obtain ⟨its,rv,p,hz⟩:=I.tuple (SqT.of hq)
  obtain ⟨⟨old,he⟩,st2⟩:=st
  obtain ⟨g0,g1,g2,g3,g4,g5⟩:=hf it (by simp)
  have hl:=rv.length
  exact xN (I.ok.hd hc) he st2 (show s.heap.IsTuple a its.toArray from p) (by simp; omega) fun h' eb=>⟨rfl,I.turned (t':=s.toks) (fun b o hb e=>eb b o hb e) g0 g1 g3 g4 g5⟩
 self:=fun _ _ _ _ _ st h=>by
  obtain ⟨⟨old,he⟩,_⟩:=st
  exact wpAny_pyIter_enum he h
theorem AU {K:ck} {H:Hp} {a:Addr} {xs:List V} {ds:List Dv} (h:H a=some (.tup xs)) (r:Reps K H ds xs):WkG K (ItE K a) (eM 0 ds) H where
 go:=fun i H' e hi=>by
  rw [dh] at hi
  have hx:i < xs.length:=by rw [r.length]; exact hi
  exact ⟨xs,xs[i],e _ _ h,by simp [hx]⟩
 stop:=fun H' e=>⟨xs,e _ _ h,by rw [r.length,dh]; exact l_ _⟩
 yld:=fun i H' v H2 e hi y=>by
  obtain ⟨p,x,rfl,hp,rfl,y⟩:=y
  obtain ⟨d,h1,h2⟩:=Reps.get (Reps.mono e _ _ r) (y xs (e _ _ h))
  have q:=kg ds 0 i d h1
  rw [Jc] at q
  exact ⟨au hp _,_,q,⟨p,_,rfl,am,⟨.int i,[x],rfl,rfl,x,[],rfl,Rep.mono (au hp _) _ _ h2,rfl⟩⟩⟩
def oQ:List Dv→Option (Rs (List Dv))
 | [.tup ds]=>some (.ok (eM 0 ds))
 | _=>none
theorem xP {X:Cx} {es:List Expr} {k:Nat} {pt p pos:Pos} {l:Expr} {ga:FnA} (hg:Gl X "enumerate") (hm:X.mg "enumerate"=none) (ha:FA X [l] ga) (hs:e_ [l] X.env=[(false,eval l X.env)]:=by kernel_rfl):FIG X (.Tuple es k pt) (.Call (.Name "enumerate" p) [l] [] pos) (fun ρ=>bnd (ga ρ) oQ):=by
 constructor
 intro pins s σ H R I h
 obtain ⟨ρ,E,o⟩:=h
 have key:OutA X H (ga ρ) fun vs H'=>∃ ds,Reps X.K H' ds vs∧OutG X H' (oQ ds) R:=by
  match hf:ga ρ,o with
  | some (.exc c),o=>exact o
  | some (.ok ds),o=>exact fun vs H' e rs=>⟨ds,rs,OutG.mono e o⟩
 refine Call_ (eG I hg hm (show Hk "enumerate"=some (.type "enumerate") by decide +kernel) (HE (thn (ha.h pos pins s σ H _ I ⟨ρ,E,key⟩) fun us s1 ⟨vs,H1,I1,r1,ds,rs,q1⟩=>?_) hs rfl))
 unfold oQ at q1
 split at q1
 · rename_i xs
   obtain ⟨v,rfl,rv⟩:=dg rs
   obtain ⟨a,ws,rfl,h1,h2⟩:=rv.tupE
   obtain ⟨u,rfl,ru⟩:=fq r1
   cases ru
   obtain ⟨its,rv',pl,hz⟩:=I1.tuple (SqT.of h1)
   refine ut (show s1.heap.IsTuple a its.toArray from pl) fun h' he hit kk=>?_
   refine wpAny_pyIter_enum he ?_
   have I2:Inv X pins σ H1 { s1 with heap:=h' }:=I1.kept (t':=s1.toks) kk
   refine ⟨s1.heap.objs.size + 1,[s1.heap.objs.size + 1,s1.heap.objs.size],_,ItE X.K a,H1,rfl,I2,uu a _ _ (Nat.succ_ne_self _),⟨⟨_,he⟩,hit⟩,fun b hb=>?_,q1 _ H1 (.refl H1) (AU h1 h2)⟩
   have hb':b=s1.heap.objs.size + 1∨b=s1.heap.objs.size:=by simpa using hb
   rcases hb' with rfl | rfl
   · exact I1.fpOk (IW _) (I1.hok.fresh (IW _))
   · exact I1.fpOk (l_ _) (I1.hok.fresh (l_ _))
 · exact q1.elim
theorem vO {tst:Option FnB} {elt:FnE} {cap:Ev}:∀ ds:List Dv,pW tst elt cap ds=iB (gN 0) tst elt cap ds
 | []=>rfl
 | d :: ds=>by
  unfold pW iB
  rw [vO ds]
  rfl
theorem xQ (cs:List (Str×Nat)) (src:FnA) (tst:Option FnB) (fe:FnE):aO cs src tst fe=aY 1 cs src (gN 0) tst fe:=by
 funext ρ
 show bnd (src ρ) _=bnd (src ρ) _
 congr 1
 funext ds
 rw [vO]
 rfl
theorem qN {X:Cx} {st:Stmt} {i:Nat} {fc:FnE} (h:PS X st (tC X i fc)) (hl:∀ ρ d,fc ρ=some (.ok d)→∃ ys,d=.lst ys):FS X st (c8 i fc):=⟨fun pins s σ H D I ⟨ρ,E,o⟩=>by
 refine h pins s σ H D I ⟨ρ,E,?_⟩
 unfold c8 at o
 match hf:fc ρ with
 | none=>rw [hf] at o; exact o.elim
 | some (.exc c)=>rw [hf] at o; exact o
 | some (.ok d) =>
  rw [hf] at o
  obtain ⟨ys,rfl⟩:=hl ρ d hf
  exact ⟨ys,rfl,fun H5 p vs e5 hp rs=>o _ _ (e5.trans (au hp _)) ((E.mono (e5.trans (au hp _))).set ⟨p,vs,rfl,am,Reps.mono (au hp _) _ _ rs⟩)⟩⟩
end FD
namespace ST
open PySem PySem.SetTable PyProof.Rows
abbrev byT (w:x_):Bool:=w.params.followText "set-order"
def SetS (prog:Program) (w:x_) (h:Heap) (S:Addr) (ks:List Str):Prop :=
 ∃ o es ep t,h.get? S=some o∧o.ExactSet∧o.data=.set es ep t∧t.fits es.size=true∧ks.length≤60∧t.led=(!byT w)∧(es.size≠0→t.plain=false)∧ElemsOf (L5 prog w) es.toList∧(∀ e∈es.toList,∃ x t,e.2=.str x t)∧(es.toList.map fun e=>strOf e.2).Perm ks
section
variable {prog:Program} {w:x_} {A:u_} {E:Value→c_→Prop} {s:c_}
end
section
variable {prog:Program} {w:x_} {A:u_} {R:NK→c_→Prop} {I:Addr} {fp wr:List Addr} {G:Array LA→Array LA→Prop} {n:Nat} {P:Nat→Value→Prop} {St:Nat→c_→Prop}
theorem SetS.moved {h h':Heap} {S:Addr} {ks:List Str} (x:SetS prog w h S ks) (hS:∀ o,h.get? S=some o→h'.get? S=some o):SetS prog w h' S ks:=by
 obtain ⟨o,es,ep,t,ho,r⟩:=x
 exact ⟨o,es,ep,t,hS _ ho,r⟩
end
section
variable {prog:Program} {w:x_} {A:u_} {E:Value→c_→Prop} {s:c_}
end
section
variable {prog:Program} {w:x_} {A:u_} {E:Value→c_→Prop}
variable {s:c_}
structure Rd (w:x_) (h:Heap) (S:Addr) (es:Array (Int×Value)) (ep:Nat) (t:SetTable):Prop where
 o:∃ o,h.get? S=some o∧o.ExactSet∧o.data=.set es ep t
 f:t.fits es.size=true
 l:t.led=(!byT w)
 p:es.size≠0→t.plain=false
theorem Rd.moved {h h':Heap} {S:Addr} {es:Array (Int×Value)} {ep:Nat} {t:SetTable} (r:Rd w h S es ep t) (k:∀ o,h.get? S=some o→h'.get? S=some o):Rd w h' S es ep t:=by
 obtain ⟨⟨o,ho,hr⟩,h1,h2,h3⟩:=r
 exact ⟨⟨o,k _ ho,hr⟩,h1,h2,h3⟩
end
section
variable {prog:Program} {w:x_} {A:u_} {E:Value→c_→Prop} {s:c_}
structure Wk (prog:Program) (w:x_) (S I:Addr) (h:Heap) (h':Heap) (es:Array (Int×Value)) (vs:List Value) (fp:List Addr) (St:Nat→Heap→Prop):Prop where
 W:∀ A:u_,A.handled=none→Walks prog w A I fp [I] vs.length (fun i v=>vs[i]?=some v) St
 st:St 0 h'
 pm:vs.Perm (es.toList.map (·.2))
 up:∀ b o,h.get? b=some o→h'.get? b=some o
 nw:h.objs.size≤I
 fp:∀ b∈fp,(b=S∨h.objs.size≤b)∧b < h'.objs.size
end
section
variable {prog:Program} {w:x_} {A:u_} {E:Value→c_→Prop} {s:c_}
theorem SetS.rd {h:Heap} {S:Addr} {ks:List Str} (x:SetS prog w h S ks):∃ es ep t,Rd w h S es ep t∧es.size≤60∧(∀ e∈es.toList,∃ x t,e.2=.str x t)∧(es.toList.map fun e=>strOf e.2).Perm ks:=by
 obtain ⟨o,es,ep,t,ho,hex,hd,hf,hk,hl,hp,hel,hs,hm⟩:=x
 refine ⟨es,ep,t,⟨⟨o,ho,hex,hd⟩,hf,hl,hp⟩,?_,hs,hm⟩
 have:=hm.length_eq
 simp at this
 omega
end
end ST
namespace FD
open PySem PySem.Spec PyProof.Rows L2
section
variable {X:Cx} {p p2 pos pos2:Pos} {e:Expr} {ga:FnA}
end
def AV (i:Nat) (f:FnS):dJ:=fun ρ ds=>match f (ρ.set i (some (.lst ds))) with
 | some (.rt d)=>some (.rt d)
 | _=>none
theorem xR {X:Cx} {i:Nat} {sts:List Stmt} {f:FnS} (h:FSs X sts f):FOs X i sts (AV i f):=⟨fun pins s σ Hf D I ⟨H,a,xs,ρ,ds,e1,ha',hia,E,r,o⟩=>by
 subst e1
 refine h.h pins s σ _ D I ⟨_,dq ha' hia E r,?_⟩
 unfold AV at o
 match hg:f (ρ.set i (some (.lst ds))) with
 | none=>rw [hg] at o; exact o.elim
 | some (.exc _)=>rw [hg] at o; exact o.elim
 | some (.nx _)=>rw [hg] at o; exact o.elim
 | some (.rt d)=>rw [hg] at o; exact fun v H2 e2 rd=>o v H2 ((b5 ha').trans e2) rd⟩
end FD
namespace TS
open PySem PyProof.Rows
section logic
variable {M:Md} {A:u_} {E:Value→c_→Prop} {J:c_→Prop} {σ α β:Type}
def wpJ (M:Md) (A:u_) (E:Value→c_→Prop) (J:c_→Prop) (m:StateT σ Sem α) (Q:α→σ→Prop) (st:σ):Prop :=
 ∀ s,J s→m_ M A (m.run st) (fun r s'=>J s'∧Q r.1 r.2) E s
theorem aW {a:α} {Q:α→σ→Prop} {st:σ} (h:Q a st):wpJ M A E J (pure a:StateT σ Sem α) Q st:=fun s hs=>by
 rw [MO]
 exact d_ ⟨hs,h⟩
theorem aJ {m:StateT σ Sem α} {f:α→StateT σ Sem β} {Q:β→σ→Prop} {st:σ} (h:wpJ M A E J m (fun a st'=>wpJ M A E J (f a) Q st') st):wpJ M A E J (m >>= f) Q st:=fun s hs=>by
 rw [StateT.run_bind]
 exact b_ (GC (h s hs) (fun r s' h'=>h'.2 s' h'.1) fun _ _ e=>e)
theorem kx {m:StateT σ Sem α} {Q Q':α→σ→Prop} {st:σ} (h:wpJ M A E J m Q st) (hq:∀ a st',Q a st'→Q' a st'):wpJ M A E J m Q' st:=fun s hs =>
 GC (h s hs) (fun r _ h'=>⟨h'.1,hq _ _ h'.2⟩) fun _ _ e=>e
theorem oR {Q:σ→σ→Prop} {st:σ} (h:Q st st):wpJ M A E J (get:StateT σ Sem σ) Q st:=fun s hs=>by
 rw [StateT.run_get]
 exact d_ ⟨hs,h⟩
theorem gg {f:σ→σ} {Q:PUnit→σ→Prop} {st:σ} (h:Q ⟨⟩ (f st)):wpJ M A E J (modify f:StateT σ Sem PUnit) Q st:=fun s hs=>by
 rw [StateT.run_modify]
 exact d_ ⟨hs,h⟩
theorem qO {m:Sem α} {Q:α→σ→Prop} {st:σ} (h:∀ s,J s→m_ M A m (fun a s'=>J s'∧Q a st) E s):wpJ M A E J (liftM m:StateT σ Sem α) Q st:=fun s hs=>by
 show m_ M A ((StateT.lift m:StateT σ Sem α).run st) _ E s
 rw [StateT.run_lift]
 exact b_ (GC (h s hs) (fun a s' h'=>d_ h') fun _ _ e=>e)
theorem AW (f:Nat→β→StateT σ Sem (ForInStep β)) (I:Nat→β→σ→Prop) (Q:β→σ→Prop) (b:Nat)
 (step:∀ i c st,i < b→I i c st→wpJ M A E J (f i c) (fun r st'=>match r with | .done c'=>Q c' st' | .yield c'=>I (i + 1) c' st') st)
 (fin:∀ c st,I b c st→Q c st):∀ (n a:Nat) (c:β) (st:σ),a + n=b→I a c st→wpJ M A E J (O7 (List.range' a n 1) c f) Q st
 | 0,a,c,st,e,h=>by
  rw [List.range'_zero,Nh]
  have:a=b:=by omega
  subst this
  exact aW (fin c st h)
 | n + 1,a,c,st,e,h=>by
  rw [List.range'_succ,OE]
  refine aJ (kx (step a c st (by omega) h) fun r st' h'=>?_)
  cases r with
  | done c'=>exact aW h'
  | yield c'=>exact AW f I Q b step fin n (a + 1) c' st' (by omega) h'
theorem fA {a b:Nat} {f:Nat→β→StateT σ Sem (ForInStep β)} (I:Nat→β→σ→Prop) {Q:β→σ→Prop} (hab:a≤b)
 (step:∀ i c st,i < b→I i c st→wpJ M A E J (f i c) (fun r st'=>match r with | .done c'=>Q c' st' | .yield c'=>I (i + 1) c' st') st)
 (fin:∀ c st,I b c st→Q c st) {c:β} {st:σ} (h:I a c st):wpJ M A E J (O7 [a:b] c f) Q st:=by
 rw [Std.Legacy.Range.forIn_eq_forIn_range']
 have hsz:([a:b]:Oc).size=b - a:=by simp [Std.Legacy.Range.size]
 show wpJ M A E J (O7 (List.range' a ([a:b]:Oc).size 1) c f) Q st
 rw [hsz]
 exact AW f I Q b step fin (b - a) a c st (by omega) h
end logic
structure Od (blt:Nat→Nat→Bool):Prop where
 ir:∀ a,blt a a=false
 tr:∀ a b c,blt a b=true→blt b c=true→blt a c=true
 nt:∀ a b c,blt a c=true→blt a b=true∨blt b c=true
def Lex (blt:Nat→Nat→Bool) (a b:Nat):Prop:=blt a b=true∨(blt b a=false∧a < b)
section order
variable {blt:Nat→Nat→Bool}
theorem Od.le (O:Od blt) {a b c:Nat} (h1:blt b a=false) (h2:blt c b=false):blt c a=false:=by
 cases h:blt c a with
 | false=>rfl
 | true =>
  rcases O.nt _ b _ h with q | q
  · rw [q] at h2; cases h2
  · rw [q] at h1; cases h1
theorem Od.lt_le (O:Od blt) {a b c:Nat} (h1:blt a b=true) (h2:blt c b=false):blt a c=true:=by
 rcases O.nt _ c _ h1 with q | q
 · exact q
 · rw [q] at h2; cases h2
theorem Od.le_lt (O:Od blt) {a b c:Nat} (h1:blt b a=false) (h2:blt b c=true):blt a c=true:=by
 rcases O.nt _ a _ h2 with q | q
 · rw [q] at h1; cases h1
 · exact q
theorem Od.as (O:Od blt) {a b:Nat} (h:blt a b=true):blt b a=false:=by
 cases h':blt b a with
 | false=>rfl
 | true=>have:=O.tr _ _ _ h h'; rw [O.ir] at this; cases this
theorem Lex.tr (O:Od blt) {a b c:Nat} (h1:Lex blt a b) (h2:Lex blt b c):Lex blt a c:=by
 rcases h1 with h1 | ⟨h1,i1⟩
 · rcases h2 with h2 | ⟨h2,i2⟩
   · exact .inl (O.tr _ _ _ h1 h2)
   · exact .inl (O.lt_le h1 h2)
 · rcases h2 with h2 | ⟨h2,i2⟩
   · exact .inl (O.le_lt h1 h2)
   · exact .inr ⟨O.le h1 h2,by omega⟩
theorem Lex.of_le {a b:Nat} (h:blt b a=false) (i:a < b):Lex blt a b:=.inr ⟨h,i⟩
end order
structure SB (a₀:Array NB) (kd:Mm) (p:Nat→Nat) (st:KC):Prop where
 sz:(K_ st).size=a₀.size
 at':∀ k,k < a₀.size→(K_ st)[k]?=a₀[p k]?
 lt:∀ k,k < a₀.size→p k < a₀.size
 inj:∀ a b,a < a₀.size→b < a₀.size→p a=p b→a=b
 kind:kindOf st=kd
 failed:Nc st=none
 pend:Ml st=#[]
def mir (p:Nat→Nat) (i j k:Nat):Nat:=if i≤k∧k < j then p (i + j - 1 - k) else p k
def bub (p:Nat→Nat) (src dst k:Nat):Nat:=if k=dst then p src else if dst < k∧k≤src then p (k - 1) else p k
section state
variable {a₀:Array NB} {kd:Mm} {p:Nat→Nat} {st:KC}
theorem SB.mirror (B:SB a₀ kd p st) {i j:Nat} (hj:j≤a₀.size):SB a₀ kd (mir p i j) (setArr st (mirror (K_ st) i j ((j - i) / 2))) where
 sz:=(mirror_size _ _ _ _).trans B.sz
 at':=fun k hk=>by
  show (PyProof.Rows.mirror (K_ st) i j ((j - i) / 2))[k]?=_
  rw [getElem?_mirror_all (by rw [B.sz]; exact hj)]
  unfold mir
  split
  · exact B.at' _ (by omega)
  · exact B.at' _ hk
 lt:=fun k hk=>by
  unfold mir
  split
  · exact B.lt _ (by omega)
  · exact B.lt _ hk
 inj:=fun a b ha hb e=>by
  unfold mir at e
  split at e <;> split at e
  · have:=B.inj _ _ (by omega) (by omega) e; omega
  · have:=B.inj _ _ (by omega) hb e; omega
  · have:=B.inj _ _ ha (by omega) e; omega
  · exact B.inj _ _ ha hb e
 kind:=B.kind
 failed:=B.failed
 pend:=B.pend
theorem SB.bubble (B:SB a₀ kd p st) {src dst:Nat} (hs:src < a₀.size) (hd:dst≤src):SB a₀ kd (bub p src dst) (setArr st (bubble (K_ st) src (src - dst))) where
 sz:=(bubble_size _ _ _).trans B.sz
 at':=fun k hk=>by
  show (PyProof.Rows.bubble (K_ st) src (src - dst))[k]?=_
  rw [getElem?_bubble (by rw [B.sz]; exact hs) _ (by omega),show src - (src - dst)=dst by omega]
  unfold bub
  split
  · exact B.at' _ hs
  · split
    · exact B.at' _ (by omega)
    · exact B.at' _ hk
 lt:=fun k hk=>by
  unfold bub
  split
  · exact B.lt _ hs
  · split
    · exact B.lt _ (by omega)
    · exact B.lt _ hk
 inj:=fun a b ha hb e=>by
  unfold bub at e
  repeat' split at e
  all_goals first
   | omega
   | (have:=B.inj _ _ (by omega) (by omega) e; omega)
 kind:=B.kind
 failed:=B.failed
 pend:=B.pend
end state
def Cm (M:Md) (A:u_) (J:c_→Prop) (a₀:Array NB) (kd:Mm) (blt:Nat→Nat→Bool):Prop :=
 ∀ (i j:Nat) (x y:NB) (s:c_) (E':Value→c_→Prop),a₀[i]?=some x→a₀[j]?=some y→J s→m_ M A (keyLt' kd x.1 y.1) (fun b s'=>J s'∧b=blt i j) E' s
section
variable {M:Md} {A:u_} {E:Value→c_→Prop} {J:c_→Prop} {a₀:Array NB} {kd:Mm} {blt:Nat→Nat→Bool} {p:Nat→Nat} {st:KC}
theorem AX {i j:Nat} {Q:Option Bool→KC→Prop} (C:Cm M A J a₀ kd blt) (B:SB a₀ kd p st) (hi:i < a₀.size) (hj:j < a₀.size) (h:Q (some (blt (p i) (p j))) st):wpJ M A E J (ltAt' i j) Q st:=by
 have e1:(K_ st)[i]?=some (a₀[p i]'(B.lt i hi)):=by rw [B.at' i hi]; simp [B.lt i hi]
 have e2:(K_ st)[j]?=some (a₀[p j]'(B.lt j hj)):=by rw [B.at' j hj]; simp [B.lt j hj]
 rw [ltAt'_eq]
 refine aJ (oR ?_)
 show wpJ M A E J (do let x ← elem' (K_ st) i; let y ← elem' (K_ st) j; lt' x y) Q st
 rw [elem'_eq,elem'_eq,e1,e2]
 refine aJ (aW (aJ (aW ?_)))
 rw [lt'_eq]
 refine aJ (oR ?_)
 rw [B.kind]
 refine aJ (qO fun s hs=>IE (GC (C (p i) (p j) _ _ s _ (by simp [B.lt i hi]) (by simp [B.lt j hj]) hs) (fun b s' h'=>?_) fun _ _ e=>e))
 obtain ⟨h1,rfl⟩:=h'
 exact ⟨h1,aW h⟩
theorem uv {i j:Nat} {Q:Unit→KC→Prop} (h:Q () (setArr st (mirror (K_ st) i j ((j - i) / 2)))):wpJ M A E J (reverseSlice' i j) Q st:=by
 rw [reverseSlice'_eq]; exact gg h
structure Up (blt:Nat→Nat→Bool) (p:Nat→Nat) (n N:Nat):Prop where
 so:∀ a b,a < b→b < n→Lex blt (p a) (p b)
 lo:∀ a,a < n→p a < n
 re:∀ a,n≤a→a < N→p a=a
theorem Up.next (O:Od blt) {n N:Nat} (U:Up blt p n N) (h1:1≤n) (hn:n < N) (h:blt (p n) (p (n - 1))=false):Up blt p (n + 1) N where
 so:=fun a b hab hb=>by
  by_cases hbn:b < n
  · exact U.so a b hab hbn
  · have hb':b=n:=by omega
    subst hb'
    have last:Lex blt (p (b - 1)) (p b):=.of_le h (by rw [U.re b (l_ _) hn]; exact U.lo _ (by omega))
    by_cases ha:a=b - 1
    · subst ha; exact last
    · exact (U.so a (b - 1) (by omega) (by omega)).tr O last
 lo:=fun a ha=>by
  by_cases han:a < n
  · have:=U.lo a han; omega
  · have:a=n:=by omega
    subst this
    rw [U.re a (l_ _) hn]
    omega
 re:=fun a ha hN=>U.re a (by omega) hN
theorem AY {a nrem:Nat} {Q:AscSt→KC→Prop} (O:Od blt) (C:Cm M A J a₀ kd blt) (B:SB a₀ kd p st) (ha:1≤a) (han:a≤nrem) (hn:nrem≤a₀.size) (U:Up blt p a a₀.size)
 (h:∀ n,a≤n→n≤nrem→Up blt p n a₀.size→(n=nrem∨blt (p n) (p (n - 1))=true)→Q (none,n) st):wpJ M A E J (ascLoop a nrem) Q st:=by
 unfold ascLoop
 refine fA (I:=fun x c st'=>st'=st∧c=(none,x)∧a≤x∧Up blt p x a₀.size) han ?_ ?_ ⟨rfl,rfl,l_ _,U⟩
 · rintro x c st' hx ⟨rfl,rfl,hax,U'⟩
   dsimp only
   refine aJ (AX C B (by omega) (by omega) ?_)
   cases hl:blt (p x) (p (x - 1)) with
   | true =>
    simp only [if_true]
    exact aW (h x hax (by omega) U' (.inr hl))
   | false =>
    simp only [i_,if_false]
    exact aW ⟨rfl,rfl,by omega,U'.next O (by omega) (by omega) hl⟩
 · rintro c st' ⟨rfl,rfl,hax,U'⟩
   exact h nrem hax (l_ _) U' (.inl rfl)
structure Dn (blt:Nat→Nat→Bool) (p:Nat→Nat) (n N:Nat):Prop where
 so:∀ a b,a < b→b < n→Lex blt (p b) (p a)
 lo:∀ a,a < n→p a < n
 re:∀ a,n≤a→a < N→p a=a
structure Dq (blt:Nat→Nat→Bool) (p:Nat→Nat) (c n N:Nat):Prop where
 cn:c < n
 d1:∀ a b,a < b→b < c→Lex blt (p b) (p a)
 d2:∀ a b,a < c→c≤b→b < n→blt (p b) (p a)=true
 d3:∀ a b,c≤a→a < b→b < n→blt (p a) (p b)=false∧blt (p b) (p a)=false∧p a < p b
 lo:∀ a,a < n→p a < n
 re:∀ a,n≤a→a < N→p a=a
theorem Dq.turn {c n N:Nat} (D:Dq blt p c n N):Dn blt (mir p c n) n N where
 so:=fun a b hab hb=>by
  unfold mir
  by_cases hbc:c≤b
  · rw [if_pos ⟨hbc,hb⟩]
    by_cases hac:c≤a
    · rw [if_pos ⟨hac,by omega⟩]
      have:=D.d3 (c + n - 1 - b) (c + n - 1 - a) (by omega) (by omega) (by omega)
      exact .inr ⟨this.2.1,this.2.2⟩
    · rw [if_neg (by omega)]
      exact .inl (D.d2 a _ (by omega) (by omega) (by omega))
  · rw [if_neg (by omega),if_neg (by omega)]
    exact D.d1 a b hab (by omega)
 lo:=fun a ha=>by
  unfold mir
  split
  · exact D.lo _ (by omega)
  · exact D.lo _ ha
 re:=fun a ha hN=>by
  unfold mir
  rw [if_neg (by omega)]
  exact D.re a ha hN
theorem Dq.one {n N:Nat} (D:Dq blt p (n - 1) n N):Dn blt p n N where
 so:=fun a b hab hb=>by
  by_cases hbc:b < n - 1
  · exact D.d1 a b hab hbc
  · exact .inl (D.d2 a b (by omega) (by omega) hb)
 lo:=D.lo
 re:=D.re
theorem Dn.turn {n N:Nat} (D:Dn blt p n N):Up blt (mir p 0 n) n N where
 so:=fun a b hab hb=>by
  unfold mir
  rw [if_pos ⟨GI _,by omega⟩,if_pos ⟨GI _,hb⟩]
  exact D.so _ _ (by omega) (by omega)
 lo:=fun a ha=>by
  unfold mir
  rw [if_pos ⟨GI _,ha⟩]
  exact D.lo _ (by omega)
 re:=fun a ha hN=>by
  unfold mir
  rw [if_neg (by omega)]
  exact D.re a ha hN
theorem Dn.next (O:Od blt) {n N:Nat} (D:Dn blt p n N) (h1:1≤n) (hn:n < N) (h:blt (p n) (p (n - 1))=true):Dq blt p n (n + 1) N where
 cn:=by omega
 d1:=D.so
 d2:=fun a b ha hb hb'=>by
  have:b=n:=by omega
  subst this
  by_cases e:a=b - 1
  · subst e; exact h
  · rcases D.so a (b - 1) (by omega) (by omega) with q | ⟨q,_⟩
    · exact O.tr _ _ _ h q
    · exact O.lt_le h q
 d3:=fun a b ha hab hb=>by omega
 lo:=fun a ha=>by
  by_cases han:a < n
  · have:=D.lo a han; omega
  · have:a=n:=by omega
    subst this
    rw [D.re a (l_ _) hn]
    omega
 re:=fun a ha hN=>D.re a (by omega) hN
theorem Dq.next (O:Od blt) {c n N:Nat} (D:Dq blt p c n N) (hn:n < N) (h1:blt (p n) (p (n - 1))=false) (h2:blt (p (n - 1)) (p n)=false):Dq blt p c (n + 1) N where
 cn:=by have:=D.cn; omega
 d1:=D.d1
 d2:=fun a b ha hb hb'=>by
  by_cases hbn:b < n
  · exact D.d2 a b ha hb hbn
  · have:b=n:=by omega
    subst this
    exact O.le_lt h2 (D.d2 a (b - 1) ha (by have:=D.cn; omega) (by omega))
 d3:=fun a b ha hab hb=>by
  by_cases hbn:b < n
  · exact D.d3 a b ha hab hbn
  · have:b=n:=by omega
    subst this
    have hlt:p a < p b:=by
     have:=D.lo a (by omega)
     rw [D.re b (l_ _) hn]
     exact this
    by_cases e:a=b - 1
    · subst e; exact ⟨h2,h1,hlt⟩
    · obtain ⟨q1,q2,_⟩:=D.d3 a (b - 1) ha (by omega) (by omega)
      exact ⟨O.le h2 q1,O.le q2 h1,hlt⟩
 lo:=fun a ha=>by
  by_cases han:a < n
  · have:=D.lo a han; omega
  · have:a=n:=by omega
    subst this
    rw [D.re a (l_ _) hn]
    omega
 re:=fun a ha hN=>D.re a (by omega) hN
theorem qP {n nrem:Nat} {Q:Option Nat→KC→Prop} (O:Od blt) (C:Cm M A J a₀ kd blt) (B:SB a₀ kd p st) (h1:1≤n) (hnn:n≤nrem) (hn:nrem≤a₀.size) (D:Dn blt p n a₀.size)
 (h:∀ m p' st',SB a₀ kd p' st'→1≤m→m≤nrem→Up blt p' m a₀.size→Q (some m) st'):wpJ M A E J (tail3 n nrem) Q st:=by
 unfold tail3
 refine aJ (uv ?_)
 have B':=B.mirror (i:=0) (j:=n) (by omega)
 exact aJ (AY O C B' h1 hnn hn D.turn fun m hm1 hm2 U _=>aW (h m _ _ B' (by omega) hm2 U))
theorem AZ {n nrem:Nat} {Q:DescSt→KC→Prop} (O:Od blt) (C:Cm M A J a₀ kd blt) (B:SB a₀ kd p st) (h1:2≤n) (hnn:n≤nrem) (hn:nrem≤a₀.size) (D:Dq blt p (n - 1) n a₀.size)
 (h:∀ m neq p' st',SB a₀ kd p' st'→n≤m→m≤nrem→neq + 1≤m→Dq blt p' (m - (neq + 1)) m a₀.size→Q (none,m,neq) st'):wpJ M A E J (descLoop n nrem) Q st:=by
 unfold descLoop
 refine fA (I:=fun x c st'=>∃ neq p',c=(none,x,neq)∧SB a₀ kd p' st'∧n≤x∧neq + 1≤x∧Dq blt p' (x - (neq + 1)) x a₀.size) hnn ?_ ?_ ⟨0,p,rfl,B,l_ _,by omega,D⟩
 · rintro x c st' hx ⟨neq,p',rfl,B',hax,hq,D'⟩
   dsimp only
   refine aJ (AX C B' (by omega) (by omega) ?_)
   cases hl:blt (p' x) (p' (x - 1)) with
   | true =>
    simp only [if_true]
    by_cases hneq:neq > 0
    · rw [if_pos hneq]
      refine aJ (uv (aW ?_))
      have B2:=B'.mirror (i:=x - (neq + 1)) (j:=x) (by omega)
      refine ⟨0,_,rfl,B2,by omega,by omega,?_⟩
      have D2:=D'.turn
      have hc:=D'.cn
      refine D2.next O (by omega) (by omega) ?_
      have e1:mir p' (x - (neq + 1)) x x=p' x:=by unfold mir; rw [if_neg (by omega)]
      have e2:mir p' (x - (neq + 1)) x (x - 1)=p' (x - (neq + 1)):=by unfold mir; rw [if_pos (by omega)]; congr 1; omega
      rw [e1,e2]
      by_cases e:x - (neq + 1)=x - 1
      · rw [e]; exact hl
      · exact O.lt_le hl (D'.d3 (x - (neq + 1)) (x - 1) (l_ _) (by omega) (by omega)).1
    · rw [if_neg hneq]
      have e:neq=0:=by omega
      subst e
      exact aW ⟨0,p',rfl,B',by omega,by omega,D'.one.next O (by omega) (by omega) hl⟩
   | false =>
    simp only [i_,if_false]
    refine aJ (AX C B' (by omega) (by omega) ?_)
    cases hg:blt (p' (x - 1)) (p' x) with
    | true =>
     simp only [if_true]
     exact aW (h x neq p' st' B' hax (by omega) hq D')
    | false =>
     simp only [i_,if_false]
     refine aW ⟨neq + 1,p',rfl,B',by omega,by omega,?_⟩
     have:=D'.next O (by omega) hl hg
     rwa [show x + 1 - (neq + 1 + 1)=x - (neq + 1) by omega]
 · rintro c st' ⟨neq,p',rfl,B',hax,hq,D'⟩
   exact h nrem neq p' st' B' hax (l_ _) hq D'
theorem iK {n nrem:Nat} {Q:Option Nat→KC→Prop} (O:Od blt) (C:Cm M A J a₀ kd blt) (B:SB a₀ kd p st) (h1:1≤n) (hnn:n + 1≤nrem) (hn:nrem≤a₀.size) (D:Dq blt p n (n + 1) a₀.size)
 (h:∀ m p' st',SB a₀ kd p' st'→1≤m→m≤nrem→Up blt p' m a₀.size→Q (some m) st'):wpJ M A E J (descPart n nrem) Q st:=by
 unfold descPart
 refine aJ (qO fun s hs=>J0 ⟨hs,?_⟩)
 refine aJ (AZ O C B (by omega) hnn hn D fun m neq p' st' B' hm1 hm2 hq D'=>?_)
 dsimp only
 by_cases hneq:neq > 0
 · rw [if_pos hneq]
   exact aJ (uv (qP O C (B'.mirror (by omega)) (by omega) hm2 hn D'.turn h))
 · rw [if_neg hneq]
   have e:neq=0:=by omega
   subst e
   exact qP O C B' (by omega) hm2 hn D'.one h
theorem xS {nrem:Nat} {Q:Option Nat→KC→Prop} (O:Od blt) (C:Cm M A J a₀ kd blt) (B:SB a₀ kd p st) (h1:1≤nrem) (hn:nrem≤a₀.size) (hp:∀ k,k < a₀.size→p k=k)
 (h:∀ m p' st',SB a₀ kd p' st'→1≤m→m≤nrem→Up blt p' m a₀.size→Q (some m) st'):wpJ M A E J (countRun' 0 nrem) Q st:=by
 rw [countRun0_eq]
 refine aJ (AY O C B (l_ 1) h1 hn ⟨fun a b hab hb=>by omega,fun a ha=>by rw [hp a (by omega)]; exact ha,fun a _ hN=>hp a hN⟩ fun n hn1 hn2 U hor=>?_)
 dsimp only
 by_cases hnn:n=nrem
 · rw [if_pos (by simpa using hnn)]
   exact aW (h n p st B hn1 hn2 U)
 · rw [if_neg (by simpa using hnn)]
   have hlt:blt (p n) (p (n - 1))=true:=hor.resolve_left hnn
   by_cases hgt:n > 1
   · rw [if_pos hgt]
     refine aJ (AX C B (by omega) (by omega) ?_)
     cases hr:blt (p 0) (p (n - 1)) with
     | true =>
      simp only [if_true]
      exact aW (h n p st B hn1 hn2 U)
     | false =>
      simp only [i_,if_false]
      have B':=B.mirror (i:=0) (j:=n) (by omega)
      have le0:∀ a,a < n→blt (p a) (p 0)=false:=fun a ha=>by
       by_cases e:a=0
       · subst e; exact O.ir _
       · rcases U.so 0 a (by omega) ha with q | q
         · exact O.as q
         · exact q.1
      have leN:∀ a,a < n→blt (p (n - 1)) (p a)=false:=fun a ha=>by
       by_cases e:a=n - 1
       · subst e; exact O.ir _
       · rcases U.so a (n - 1) (by omega) (by omega) with q | q
         · exact O.as q
         · exact q.1
      have eq:∀ a b,a < n→b < n→blt (p a) (p b)=false:=fun a b ha hb=>O.le (leN b hb) (O.le hr (le0 a ha))
      have D:Dq blt (mir p 0 n) n (n + 1) a₀.size:=by
       have Dm:Dn blt (mir p 0 n) n a₀.size:=⟨fun a b hab hb=>by
        unfold mir
        rw [if_pos ⟨GI _,hb⟩,if_pos ⟨GI _,by omega⟩]
        refine .of_le (eq _ _ (by omega) (by omega)) ?_
        rw [hp _ (by omega),hp _ (by omega)]
        omega,fun a ha=>by
        unfold mir
        rw [if_pos ⟨GI _,ha⟩,hp _ (by omega)]
        omega,fun a ha hN=>by
        unfold mir
        rw [if_neg (by omega),hp _ hN]⟩
       refine Dm.next O (by omega) (by omega) ?_
       have e1:mir p 0 n n=p n:=by unfold mir; rw [if_neg (by omega)]
       have e2:mir p 0 n (n - 1)=p 0:=by unfold mir; rw [if_pos (by omega)]; congr 1; omega
       rw [e1,e2]
       exact O.lt_le hlt (eq 0 (n - 1) (by omega) (by omega))
      exact aJ (uv (iK O C B' (by omega) (by omega) hn D h))
   · rw [if_neg hgt]
     have hn1':n=1:=by omega
     subst hn1'
     refine iK O C B (by omega) (by omega) hn ?_ h
     have Dm:Dn blt p 1 a₀.size:=⟨fun a b hab hb=>by omega,U.lo,U.re⟩
     exact Dm.next O (by omega) (by omega) hlt
theorem Ee {n ok:Nat} {Q:Bool→KC→Prop} (O:Od blt) (C:Cm M A J a₀ kd blt) (B:SB a₀ kd p st) (hok:1≤ok) (hon:ok≤n) (hn:n≤a₀.size) (U:Up blt p ok a₀.size)
 (h:∀ p' st',SB a₀ kd p' st'→Up blt p' n a₀.size→Q true st'):wpJ M A E J (binarySort' 0 n ok) Q st:=by
 rw [binarySort'_eq]
 simp only [Jc]
 rw [show max ok 1=ok by omega]
 refine aJ (kx (fA (I:=fun k c st'=>∃ p',c=(none,())∧ok≤k∧SB a₀ kd p' st'∧Up blt p' k a₀.size) (Q:=fun c st'=>∃ p',c=(none,())∧SB a₀ kd p' st'∧Up blt p' n a₀.size) hon ?_ ?_ ⟨p,rfl,l_ _,B,U⟩) ?_)
 · rintro k c st' hk ⟨p',rfl,hok',B',U'⟩
   have hpk:p' k=k:=U'.re k (l_ _) (by omega)
   refine aJ (kx (fA (I:=fun x c st''=>st''=st'∧∃ l r,c=(none,l,r)∧l≤r∧r≤k∧r - l≤k - x∧(∀ i,i < l→blt (p' k) (p' i)=false)∧(∀ i,r≤i→i < k→blt (p' k) (p' i)=true))
    (Q:=fun c st''=>st''=st'∧∃ l r,c=(none,l,r)∧l≤k∧(∀ i,i < l→blt (p' k) (p' i)=false)∧(∀ i,l≤i→i < k→blt (p' k) (p' i)=true)) (GI k) ?_ ?_ ⟨rfl,0,k,rfl,by omega,by omega,by omega,fun i hi=>by omega,fun i h1 h2=>by omega⟩) ?_)
   · rintro x c st'' hx ⟨rfl,l,r,rfl,hlr,hrk,hm,hlo,hhi⟩
     dsimp only
     by_cases hge:l ≥ r
     · rw [if_pos hge]
       have:l=r:=by omega
       subst this
       exact aW ⟨rfl,l,l,rfl,hrk,hlo,hhi⟩
     · rw [if_neg hge]
       refine aJ (AX C B' (by omega) (by omega) ?_)
       cases hless:blt (p' k) (p' ((l + r) / 2)) with
       | true =>
        simp only [if_true]
        refine aW ⟨rfl,l,(l + r) / 2,rfl,by omega,by omega,by omega,hlo,fun i i1 i2=>?_⟩
        by_cases e:i=(l + r) / 2
        · subst e; exact hless
        · rcases U'.so ((l + r) / 2) i (by omega) i2 with q | q
          · exact O.tr _ _ _ hless q
          · exact O.lt_le hless q.1
       | false =>
        simp only [i_,if_false]
        refine aW ⟨rfl,(l + r) / 2 + 1,r,rfl,by omega,by omega,by omega,fun i i1=>?_,hhi⟩
        by_cases e:i=(l + r) / 2
        · subst e; exact hless
        · rcases U'.so i ((l + r) / 2) (by omega) (by omega) with q | q
          · exact O.le (O.as q) hless
          · exact O.le q.1 hless
   · rintro c st'' ⟨rfl,l,r,rfl,hlr,hrk,hm,hlo,hhi⟩
     have:l=r:=by omega
     subst this
     exact ⟨rfl,l,l,rfl,hrk,hlo,hhi⟩
   · rintro c st'' ⟨rfl,l,r,rfl,hlk,hlo,hhi⟩
     show wpJ M A E J (do moveDown' k l; pure (Li (none,()))) _ _
     rw [moveDown'_eq]
     refine aJ (gg (aW ⟨bub p' k l,rfl,by omega,B'.bubble (by omega) hlk,?_⟩))
     refine ⟨fun a b hab hb=>?_,fun a ha=>?_,fun a ha hN=>?_⟩
     · have c1:bub p' k l l=p' k:=by unfold bub; rw [if_pos rfl]
       have c2:∀ x,l < x→x≤k→bub p' k l x=p' (x - 1):=fun x h1 h2=>by unfold bub; rw [if_neg (by omega),if_pos ⟨h1,h2⟩]
       have c3:∀ x,x < l→bub p' k l x=p' x:=fun x h1=>by unfold bub; rw [if_neg (by omega),if_neg (by omega)]
       by_cases hbl:b=l
       · subst hbl
         rw [c1,c3 a hab]
         exact .of_le (hlo a (by omega)) (by rw [hpk]; exact U'.lo a (by omega))
       · by_cases hbg:l < b
         · rw [c2 b hbg (by omega)]
           by_cases hal:a=l
           · subst hal
             rw [c1]
             exact .inl (hhi (b - 1) (by omega) (by omega))
           · by_cases hag:l < a
             · rw [c2 a hag (by omega)]
               exact U'.so (a - 1) (b - 1) (by omega) (by omega)
             · rw [c3 a (by omega)]
               exact U'.so a (b - 1) (by omega) (by omega)
         · rw [c3 a (by omega),c3 b (by omega)]
           exact U'.so a b hab (by omega)
     · unfold bub
       split
       · rw [hpk]; omega
       · split
         · have:=U'.lo (a - 1) (by omega); omega
         · have:=U'.lo a (by omega); omega
     · unfold bub
       rw [if_neg (by omega),if_neg (by omega)]
       exact U'.re a (by omega) hN
 · rintro c st' ⟨p',rfl,_,B',U'⟩
   exact ⟨p',rfl,B',U'⟩
 · rintro c st' ⟨p',rfl,B',U'⟩
   exact aW (h p' st' B' U')
end
section
variable {M:Md} {A:u_} {E:Value→c_→Prop} {J:c_→Prop} {a₀:Array NB} {kd:Mm} {blt:Nat→Nat→Bool} {p:Nat→Nat} {st:KC}
structure Cy (a₀:Array NB) (blt:Nat→Nat→Bool) (p:Nat→Nat) (xs:Array NB):Prop where
 sz:xs.size=a₀.size
 at':∀ k,k < a₀.size→xs[k]?=a₀[p k]?
 lt:∀ k,k < a₀.size→p k < a₀.size
 inj:∀ a b,a < a₀.size→b < a₀.size→p a=p b→a=b
 so:∀ a b,a < b→b < a₀.size→Lex blt (p a) (p b)
def Dne (a₀:Array NB) (blt:Nat→Nat→Bool) (st:KC):Prop:=∃ p,Cy a₀ blt p (K_ st)∧Nc st=none∧Ml st=#[(0,a₀.size,0)]
theorem SB.done (B:SB a₀ kd p st) (U:Up blt p a₀.size a₀.size):Dne a₀ blt (setPending st ((Ml st).push (0,a₀.size,0))) :=
 ⟨p,⟨B.sz,B.at',B.lt,B.inj,U.so⟩,B.failed,by show (Ml st).push _=_; rw [B.pend]; rfl⟩
theorem vP {Q:Unit→KC→Prop} (O:Od blt) (C:Cm M A J a₀ kd blt) (B:SB a₀ kd p st) (hp:∀ k,k < a₀.size→p k=k) (h2:2≤a₀.size) (h64:a₀.size < 64)
 (h:∀ p' st',Cy a₀ blt p' (K_ st')→Nc st'=none→Q () st'):wpJ M A E J sortRuns' Q st:=by
 rw [sortRuns'_eq]
 refine aJ (oR ?_)
 dsimp only
 have hmr:minRun' a₀.size a₀.size 0=a₀.size:=by
  obtain ⟨f,hf⟩:∃ f,a₀.size=f + 1:=⟨a₀.size - 1,by omega⟩
  have:minRun' (f + 1) a₀.size 0=a₀.size:=by rw [minRun'_succ,if_pos h64]; rfl
  rwa [← hf] at this
 simp only [B.sz,hmr]
 refine aJ (kx (fA (I:=fun x c st'=>(x=0∧c=(none,0)∧SB a₀ kd p st')∨(1≤x∧c=(none,a₀.size)∧Dne a₀ blt st')) (Q:=fun c st'=>c=(none,a₀.size)∧Dne a₀ blt st') (GI _) ?_ ?_ (.inl ⟨rfl,rfl,B⟩)) ?_)
 · rintro x c st' hx (⟨rfl,rfl,B'⟩ | ⟨hx1,rfl,D⟩)
   · dsimp only
     rw [if_neg (by omega)]
     simp only [Nat.sub_zero,Nat.min_self,Jc]
     refine aJ (xS O C B' (by omega) (l_ _) hp fun m p2 st2 B2 hm1 hm2 U2=>?_)
     dsimp only
     by_cases hlt:m < a₀.size
     · rw [if_pos hlt]
       refine aJ (qO fun s hs=>J0 ⟨hs,?_⟩)
       refine aJ (Ee O C B2 hm1 hm2 (l_ _) U2 fun p3 st3 B3 U3=>?_)
       simp only [IJ,i_,if_false]
       refine aJ (oR ?_)
       have hb:(Ml st3).back?=none:=by rw [B3.pend]; rfl
       rw [hb]
       dsimp only
       exact aJ (gg (aW (.inr ⟨by omega,rfl,B3.done U3⟩)))
     · rw [if_neg hlt]
       have hm:m=a₀.size:=by omega
       subst hm
       refine aJ (oR ?_)
       have hb:(Ml st2).back?=none:=by rw [B2.pend]; rfl
       rw [hb]
       dsimp only
       exact aJ (gg (aW (.inr ⟨by omega,rfl,B2.done U2⟩)))
   · dsimp only
     rw [if_pos (l_ _)]
     exact aW ⟨rfl,D⟩
 · rintro c st' (⟨hx,_,_⟩ | ⟨_,hc,D⟩)
   · omega
   · exact ⟨hc,D⟩
 · rintro c st' ⟨rfl,pd,D1,D2,D3⟩
   dsimp only
   refine aJ (kx (fA (I:=fun _ c st''=>st''=st'∧c=(none,())) (Q:=fun c st''=>st''=st'∧c=(none,())) (GI _) ?_ (fun _ _ hh=>hh) ⟨rfl,rfl⟩) ?_)
   · rintro x c st'' _ ⟨rfl,rfl⟩
     refine aJ (oR ?_)
     rw [if_pos (by rw [D3]; exact l_ 1)]
     exact aW ⟨rfl,rfl⟩
   · rintro c st'' ⟨rfl,rfl⟩
     exact aW (h pd _ D1 D2)
end
abbrev eT (h:Heap) (a:Addr) (vs:List Value):Heap:=((h.update a (GK fun _=>#[])).push (GM "tuple" vs.toArray 0)).push (GM "list" #[] 0)
section
variable {prog:Program} {w:x_} {A:u_} {E:Value→c_→Prop} {s:c_} {blt:Nat→Nat→Bool} {Kd:Mm→Prop}
def JT (s:c_) (H:Heap):c_→Prop:=fun s'=>∃ tk,s.toks≤tk∧s'={ s with heap:=H,toks:=tk }
theorem A0 {a:Addr} {vs:List Value} {n:Nat} {P:Nm→c_→Prop} (ho:s.heap.get? a=some (GM "list" vs.toArray n)) (h64:vs.length < 64) (O:Od blt)
 (hkk:2≤vs.length→∀ s1,JT s (eT s.heap a vs) s1→m_ (pi prog w) A (keyKind' vs.toArray) (fun k s'=>JT s (eT s.heap a vs) s'∧Kd k) E s1)
 (C:∀ kd,Kd kd→Cm (pi prog w) A (JT s (eT s.heap a vs)) (LV vs) kd blt)
 (h:∀ (p:Nat→Nat) (out:Array Value) (tk:Nat),out.size=vs.length→(∀ k,k < vs.length→out[k]?=vs[p k]?)→(∀ k,k < vs.length→p k < vs.length)→(∀ x y,x < vs.length→y < vs.length→p x=p y→x=y)→(∀ x y,x < y→y < vs.length→Lex blt (p x) (p y)) →
   P (.done (.ret .none)) { s with heap:=sortedHeap s.heap a vs out,toks:=tk }) :
 m_ (pi prog w) A (K3.«list.sort» ⟨[.ref a],[]⟩) P E s:=by
 rw [list_sort_plain]
 have ha:a < s.heap.objs.size:=o_ ho
 refine b_ (KB ho rfl ?_)
 refine b_ (Jk ho rfl ?_ (FD.line64 (by simpa using h64)))
 obtain ⟨e1,ho1⟩:∃ e1,(s.heap.update a (GK fun _=>#[])).get? a=some (GM "list" #[] e1):=⟨_,JX ho (fun _=>#[])⟩
 refine b_ (LU ho1 rfl ?_)
 refine b_ (MY ?_ (FD.line64 (by simpa using h64)))
 refine b_ (LZ ?_)
 refine GV ?_
 have ho6:(eT s.heap a vs).get? a=some (GM "list" #[] e1):=by
  rw [Ib _ _ _ (by rw [KY,IR]; exact z_ (HJ ha)),Ib _ _ _ (by rw [IR]; exact z_ ha)]
  exact ho1
 show m_ (pi prog w) A _ P E { s with heap:=eT s.heap a vs }
 dsimp only
 have hsz:vs.toArray.size=vs.length:=by simp
 have pz:(LV vs).size=vs.length:=MJ vs
 have pat:∀ k,k < vs.length→(LV vs)[k]?=(vs[k]?).map fun v=>(v,v):=fun k hk=>by
  unfold LV
  simp [hk]
 by_cases h2:vs.toArray.size < 2
 · rw [if_pos h2,if_pos h2]
   refine b_ (d_ ?_)
   rw [MO]
   refine b_ (d_ ?_)
   dsimp only
   refine b_ (LU ho6 rfl ?_)
   refine b_ (Jk ho6 rfl ?_ (hsz2:=by rw [Ik]; show (LV vs).size≤_; rw [MJ,IV]; omega))
   simp only [bne_self_eq_false,i_,if_false]
   refine d_ (h id ((LV vs).map Prod.snd) s.toks (by simp [pz]) (fun k hk=>?_) (fun k hk=>hk) (fun x y _ _ e=>e) (fun x y hxy hy=>by rw [hsz] at h2; omega))
   rw [Il,pat k hk]
   simp [hk]
 · rw [if_neg h2,if_neg h2]
   rw [hsz] at h2
   refine b_ (GC (hkk (by omega) { s with heap:=eT s.heap a vs } ⟨s.toks,l_ _,rfl⟩) (fun k s1 hk1=>?_) fun _ _ e=>e)
   obtain ⟨J1,hkd⟩:=hk1
   refine b_ (GC (vP (E:=E) (Q:=fun _ st'=>∃ p',Cy (LV vs) blt p' (K_ st')∧Nc st'=none) (p:=id) O (C k hkd)
    (st:=OW k (vs.toArray.zip vs.toArray) #[] 7 none) ⟨rfl,fun _ _=>rfl,fun _ h=>h,fun _ _ _ _ e=>e,rfl,rfl,rfl⟩ (fun _ _=>rfl) (by rw [pz]; omega) (by rw [pz]; exact h64) (fun p' st' a1 a2=>⟨p',a1,a2⟩) s1 J1) ?_ fun _ _ e=>e)
   rintro ⟨⟨⟩,st'⟩ s' ⟨⟨tk,_,rfl⟩,p',F,hf⟩
   dsimp only
   refine b_ (LU (s:={ s with heap:=eT s.heap a vs,toks:=tk }) ho6 rfl ?_)
   refine b_ (Jk (s:={ s with heap:=eT s.heap a vs,toks:=tk }) ho6 rfl ?_ (hsz2:=by refine GG (JG ((Ik ..).trans (F.sz.trans (MJ _)))) ?_; rw [IV]; omega))
   rw [hf]
   simp only [bne_self_eq_false,i_,if_false]
   have Fl:=F.lt
   have Fi:=F.inj
   have Fs:=F.so
   rw [pz] at Fl Fi Fs
   refine d_ (h p' _ tk (by rw [Ik,F.sz,pz]) (fun k hk=>?_) Fl Fi Fs)
   rw [Il,F.at' k (by rw [pz]; exact hk),pat _ (Fl k hk)]
   simp [Fl k hk]
end
end TS
namespace TS
open PySem PySem.Spec PyProof.Rows L2
theorem oU (b:Bool) (x y:Value):keyLt' (OH b) x y=(do
 let xs ← Kz x; let ys ← Kz y
 for ((p,q),i) in (xs.toList.zip ys.toList).zipIdx do
  if !(← eqBool p q) then return ← oneLt' (b && i == 0) p q
 return decide (xs.size < ys.size)):=rfl
theorem oV (v:Value):firstOfTuple' v=(do
 if (← Oe v) != .type "tuple" then return none
 return (← Kz v)[0]?):=rfl
def iL (h:Heap) (A:u_) (z:Bool) (p q:Value) (e l:Bool):Prop:=∀ (prog:Program) (w:x_) (E:Value→c_→Prop) (s:c_),s.heap=h →
 (∀ Q:Bool→c_→Prop,Q e s→m_ (pi prog w) A (eqBool p q) Q E s)∧(∀ (b:Bool) (Q:Bool→c_→Prop),(b=true→z=true)→Q l s→m_ (pi prog w) A (oneLt' b p q) Q E s)
theorem kz (x:Bool) {M:Md} {A:u_} {E:Value→c_→Prop} {s:c_} {Q:Bool→c_→Prop} (h:Q x s):m_ M A (truthOfDropped (.bool x)) Q E s:=H_ h
theorem nv (h0:Heap) (A:u_) (z:Bool) (a b:Str) (t u:Tok):iL h0 A z (.str a t) (.str b u) (decide (a=b)) (decide (a.cps.toList < b.cps.toList)):=fun prog w E s _ =>
 ⟨fun Q h=>wpAny_eqBool_str h,fun b' Q _ h=>by
  cases b' with
  | true=>exact oneLt_str h
  | false =>
   rw [No]
   simp only [i_,if_false]
   exact b_ (Nw (kz _ h):m_ (pi prog w) A (Gx .Lt (.str a t) (.str b u)) _ E s)⟩
theorem ny (h0:Heap) (A:u_) (z:Bool) (a b:Int) (t u:Tok):iL h0 A z (.int a t) (.int b u) (a == b) (decide (a < b)):=fun prog w E s _ =>
 ⟨fun Q h=>wpAny_eqBool_int h,fun b' Q _ h=>by
  cases b' with
  | true=>exact oneLt_int h
  | false =>
   rw [No]
   simp only [i_,if_false]
   exact b_ (PyProof.Rows.lt_int (kz _ h):m_ (pi prog w) A (Gx .Lt (.int a t) (.int b u)) _ E s)⟩
theorem xT (h0:Heap) (A:u_) (z:Bool) (a b:Bool):iL h0 A z (.bool a) (.bool b) (a == b) (decide (b2i a < b2i b)):=fun prog w E s _ =>
 ⟨fun Q h=>M6 a b prog w E Q h,fun b' Q _ h=>by
  cases b' with
  | true =>
   rw [No]
   simp only [if_true]
   refine b_ (wpAny_cRoomFor_byValue rfl ?_)
   refine b_ (wpAny_callSpecialIfBound?_slot (N6 s a) F.slot_bool_lt (call_gives F.slot_bool_lt (N6 s a) F.entry_int_lt (F.args_int_lt_2 _ _) (gives_int_lt_bools a b) ?_))
   exact kz _ h
  | false =>
   rw [No]
   simp only [i_,if_false]
   exact b_ (PyProof.Rows.lt_bool (kz _ h):m_ (pi prog w) A (Gx .Lt (.bool a) (.bool b)) _ E s)⟩
def bq:List (Bool×Bool)→Option Bool
 | []=>none
 | (true,_) :: r=>bq r
 | (false,l) :: _=>some l
theorem ce (k l:Bool) (rs:List (Bool×Bool)):(bq ((k,l) :: rs)).getD false=if k=true then (bq rs).getD false else l:=by cases k <;> rfl
inductive jy (h:Heap) (A:u_):Bool→List (Value×Value)→List (Bool×Bool)→Prop
 | nil {z:Bool}:jy h A z [] []
 | cons {z:Bool} {p q:Value} {e l:Bool} {ps:List (Value×Value)} {rs:List (Bool×Bool)}:iL h A z p q e l→jy h A false ps rs→jy h A z ((p,q) :: ps) ((e,l) :: rs)
section
variable {prog:Program} {w:x_} {A:u_} {E:Value→c_→Prop} {s:c_}
theorem qQ (b:Bool) {R:Option Bool×Unit→c_→Prop}:∀ {z:Bool} {l:List (Value×Value)} {rs:List (Bool×Bool)} (k:Nat),jy s.heap A z l rs→(k=0→z=true)→R (bq rs,()) s →
 m_ (pi prog w) A (O7 (l.zipIdx k) ((none,()):Option Bool×Unit) fun x __s=>match x with
  | ((p,q),i)=>do
   let __do_lift ← eqBool p q
   if (!__do_lift)=true then do
    let __do_lift ← oneLt' (b && i == 0) p q
    pure (ForInStep.done (some __do_lift,()))
    else pure (Li (none,()))) R E s
 | _,_,_,k,.nil,_,h=>by
  rw [List.zipIdx_nil,Nh]
  exact d_ h
 | _,_,_,k,.cons (p:=p) (q:=q) (e:=e) (l:=l) i r,hz,h=>by
  rw [List.zipIdx_cons,OE]
  refine b_ ?_
  dsimp only
  refine b_ ((i prog w E s rfl).1 _ ?_)
  cases e with
  | true =>
   simp only [IJ,i_,if_false]
   exact d_ (qQ b (k + 1) r (fun z=>absurd z (Nat.succ_ne_zero k)) h)
  | false =>
   simp only [JC,if_true]
   exact b_ ((i prog w E s rfl).2 _ _ (fun hb=>hz (by simp at hb; exact hb.2)) (d_ (d_ h)))
theorem kA (b:Bool) {a c:Addr} {xs ys:Array Value} {rs:List (Bool×Bool)} {Q:Bool→c_→Prop} (h1:s.heap.IsTuple a xs) (h2:s.heap.IsTuple c ys) (hi:jy s.heap A true (xs.toList.zip ys.toList) rs) (h:Q ((bq rs).getD (decide (xs.size < ys.size))) s) :
 m_ (pi prog w) A (keyLt' (OH b) (.ref a) (.ref c)) Q E s:=by
 rw [oU]
 obtain ⟨o1,g1,_,n1,d1⟩:=h1
 obtain ⟨o2,g2,_,n2,d2⟩:=h2
 refine b_ (KB g1 d1 (b_ (KB g2 d2 ?_)))
 refine b_ (qQ b 0 hi (fun _=>rfl) ?_)
 dsimp only
 cases hf:bq rs with
 | none=>rw [hf] at h; exact d_ h
 | some r=>rw [hf] at h; exact d_ h
inductive dP (h:Heap):List Value→List Value→Prop
 | nil:dP h [] []
 | cons {a:Addr} {xs:Array Value} {f:Value} {vs fs:List Value}:h.IsTuple a xs→xs[0]?=some f→dP h vs fs→dP h (.ref a :: vs) (f :: fs)
theorem kB {R:List (Option Value)→c_→Prop}:∀ {vs:List Value} {fs:List Value},dP s.heap vs fs→R (fs.map some) s→m_ (pi prog w) A (vs.mapM firstOfTuple') R E s
 | _,_,.nil,h=>by rw [List.mapM_nil]; exact d_ h
 | _,_,.cons e2 e3 r,h=>by
  rw [List.mapM_cons,oV]
  obtain ⟨o,g,c,n,d⟩:=e2
  refine b_ (b_ (Kp (T:="tuple") ⟨o,g,c⟩ ?_))
  rw [if_neg (by decide)]
  refine b_ (KB g d (d_ ?_))
  rw [e3]
  refine b_ (kB r ?_)
  exact d_ h
end
def Ba (p q:Value) (e l:Bool):Prop:=∀ (prog:Program) (w:x_) (A:u_) (E:Value→c_→Prop) (s:c_),
 (∀ Q:Bool→c_→Prop,Q e s→m_ (pi prog w) A (eqBool p q) Q E s)∧(∀ Q:Value→c_→Prop,Q (.bool l) s→m_ (pi prog w) A (richCompare .Lt p q) Q E s)
inductive iM:List (Value×Value)→List (Bool×Bool)→Prop
 | nil:iM [] []
 | cons {p q:Value} {e l:Bool} {ps:List (Value×Value)} {rs:List (Bool×Bool)}:Ba p q e l→iM ps rs→iM ((p,q) :: ps) ((e,l) :: rs)
section
open PySem.SeqAt
open PySem.AutoSeq1 (wpAny_loadPart')
open PySem.MeetsSeq PySem.MeetsSeq2 PySem.MeetsSeq3
theorem qR (l b:Addr) (items items2:Array Value) (n n2:Nat) (dd dd2:Option Addr) (sl sl2:Array (Option Value)) (rs:List (Bool×Bool)) (hi:iM (items.toList.zip items2.toList) rs) (hz:items.size=items2.size) :
 Meets (K3.«tuple.__lt__» ⟨[.ref l,.ref b],[]⟩)
  (fun _ R s=>s.heap.get? l=some { cls:=.type "tuple",dict:=dd,data:=.seq items n,slots:=sl }∧s.heap.get? b=some { cls:=.type "tuple",dict:=dd2,data:=.seq items2 n2,slots:=sl2 } ∧
    R (.ok (.ret (.bool ((bq rs).getD false)))) s) :=
 .of_wp fun prog w A R s h=>by
  obtain ⟨hp,g,d,tk,os⟩:=s; obtain ⟨hl,hb,h⟩:=h
  have f2:=L8
  wp_walk using La hl,La hb,JD _ (fun rest b s'=>b.1=none∧s'=⟨hp,g,d,tk,os⟩∧∃ rs',iM rest rs'∧R (.ok (.ret (.bool ((bq rs').getD false)))) ⟨hp,g,d,tk,os⟩) _
  case turn =>
   rintro ⟨y,x⟩ rest b s' ⟨hb',rfl,rs',hI,hR⟩
   cases hI with
   | cons i r =>
    rename_i e lw rs''
    rw [ce] at hR
    refine b_ ((i prog w _ _ _).1 _ ?_)
    cases e with
    | true =>
     wp_walk
     exact ⟨rfl,rfl,_,r,by simpa using hR⟩
    | false =>
     have hri:=fun Q h=>(i prog w A.in1 (fun e s'=>R (.error e) s') ⟨hp,g,d,tk,os⟩).2 Q h
     wp_walk using hri
     exact ⟨_,rfl,by simpa using hR⟩
  case fin =>
   rintro ⟨b1,b2⟩ s' ⟨hb',rfl,rs',hI,hR⟩
   simp only at hb'
   subst hb'
   cases hI
   wp_walk
   exact ⟨_,rfl,by simpa [KN,hz,bq] using hR⟩
  case h =>
   exact ⟨rfl,rfl,rs,hi,h⟩
end
def kG:List Str→List Str→Bool
 | x :: xs,y :: ys=>if x=y then kG xs ys else decide (x.cps.toList < y.cps.toList)
 | _,_=>false
theorem iN:∀ {ks js:List Str} {xs ys:List Value},ks.length=js.length→Vals (ks.map V.str) xs→Vals (js.map V.str) ys→∃ rs,iM (xs.zip ys) rs∧(bq rs).getD false=kG ks js
 | [],[],xs,ys,_,v,v'=>by
  cases v
  exact ⟨[],.nil,rfl⟩
 | k :: ks,j :: js,xs,ys,hl,v,v'=>by
  cases v with
  | cons v1 v2 =>
   cases v' with
   | cons v1' v2' =>
    obtain ⟨rs,i1,i2⟩:=iN (by simpa using hl) v2 v2'
    obtain ⟨t,rfl⟩:=v1
    obtain ⟨t',rfl⟩:=v1'
    refine ⟨(decide (k=j),decide (k.cps.toList < j.cps.toList)) :: rs,.cons (fun prog w A E s=>⟨(nv s.heap A false k j t t' prog w E s rfl).1,fun Q h=>(Nw h:m_ (pi prog w) A (Gx .Lt (.str k t) (.str j t')) Q E s)⟩) i1,?_⟩
    rw [ce,i2]
    simp [kG]
 | [],_ :: _,_,_,h,_,_=>by simp at h
 | _ :: _,[],_,_,h,_,_=>by simp at h
theorem lP {prog:Program} {w:x_}:∀ {ks:List Str} {xs:List Value},Vals (ks.map V.str) xs→OV (L5 prog w) ks xs
 | [],xs,v=>by cases v; exact .nil
 | k :: ks,xs,v=>by
  cases v with
  | cons v1 v2 =>
   obtain ⟨t,rfl⟩:=v1
   exact .cons (by show JQ k (.str k t)=true; simp [JQ]) (lP v2)
theorem uw {h0:Heap} {A:u_} {a c:Addr} {ks js:List Str} {xs ys:List Value} (hu:A.units + 8 < cLine) (h1:h0.IsTuple a xs.toArray) (h2:h0.IsTuple c ys.toArray) (hl:ks.length=js.length) (v1:Vals (ks.map V.str) xs) (v2:Vals (js.map V.str) ys) :
 iL h0 A false (.ref a) (.ref c) (decide (ks=js)) (kG ks js):=fun prog w E s hs=>by
 subst hs
 obtain ⟨⟨cls,dd,data,sl⟩,ho,hc,n,hd⟩:=id h1
 obtain ⟨⟨cls2,dd2,data2,sl2⟩,ho2,hc2,n2,hd2⟩:=id h2
 simp only at hc hd hc2 hd2
 subst hc hd hc2 hd2
 refine ⟨fun Q h=>PySem.wpAny_eqBool_tuple (knd:=L5 prog w) (by omega) ⟨_,_,_,ho,rfl,rfl,by simpa using lP v1⟩ ⟨_,_,_,ho2,rfl,rfl,by simpa using lP v2⟩ h,fun b Q hb h=>?_⟩
 cases b with
 | true=>exact absurd (hb rfl) (by decide)
 | false =>
  rw [No]
  simp only [i_,if_false]
  obtain ⟨rs,i1,i2⟩:=iN hl v1 v2
  rw [← i2] at h
  have hz:xs.toArray.size=ys.toArray.size:=by
   have e1:=v1.length
   have e2:=v2.length
   simp at e1 e2 ⊢
   omega
  refine b_ ?_
  exact My (op:=.Lt) ⟨_,ho,rfl⟩ ⟨_,ho2,rfl⟩ PySem.F.slot_tuple_lt PySem.F.entry_tuple_lt (PySem.F.args_tuple_lt_2 _ _) (qR a c xs.toArray ys.toArray n n2 dd dd2 sl sl2 rs i1 hz)
   ⟨ho,ho2,show Hy ((bq rs).getD false)≠M5∧_ from ⟨(fun x=>nomatch x),kz _ h⟩⟩ (by omega)
end TS
namespace TS
open PySem PyProof.Rows FD
def kdI:Dv→Nat
 | .str _=>1
 | .int _=>2
 | .bl _=>3
 | .tup ds=>(match aV ds with | some ks=>4 + ks.length | none=>0)
 | _=>0
def eqI:Dv→Dv→Bool
 | .str a,.str b=>decide (a=b)
 | .int a,.int b=>a == b
 | .bl a,.bl b=>a == b
 | .tup a,.tup b=>(match aV a,aV b with | some x,some y=>decide (x=y) | _,_=>false)
 | _,_=>false
def ltI:Dv→Dv→Bool
 | .str a,.str b=>decide (a.cps.toList < b.cps.toList)
 | .int a,.int b=>decide (a < b)
 | .bl a,.bl b=>decide (b2i a < b2i b)
 | .tup a,.tup b=>(match aV a,aV b with | some x,some y=>kG x y | _,_=>false)
 | _,_=>false
def ltL:List Dv→List Dv→Bool
 | x :: xs,y :: ys=>if eqI x y then ltL xs ys else ltI x y
 | _,_=>false
def sig (ds:List Dv):List Nat:=ds.map kdI
def dZ (ks:List Nat):Bool:=ks.all fun k=>k != 0
theorem dG:∀ {ds:List Dv} {ks:List Str},aV ds=some ks→ds=ks.map Dv.str
 | [],ks,h=>by cases h; rfl
 | .str x :: r,ks,h=>by
  obtain ⟨rs,h1,rfl⟩:=Gq.mp (show (aV r).map (x :: ·)=some ks from h)
  rw [dG h1]
  rfl
 | .non :: _,_,h=>by cases h
 | .bl _ :: _,_,h=>by cases h
 | .int _ :: _,_,h=>by cases h
 | .tup _ :: _,_,h=>by cases h
 | .lst _ :: _,_,h=>by cases h
 | .scr _ :: _,_,h=>by cases h
 | .exn _ :: _,_,h=>by cases h
theorem dQ {ds:List Dv} (h:kdI (.tup ds)≠0):∃ ks,aV ds=some ks∧kdI (.tup ds)=4 + ks.length:=by
 simp only [kdI] at h ⊢
 split at h
 · rename_i ks e
   exact ⟨ks,e,rfl⟩
 · exact absurd rfl h
theorem iO {x y:Dv} (h:eqI x y=true):x=y:=by
 cases x <;> cases y <;> simp only [eqI,i_,decide_eq_true_eq,beq_iff_eq] at h <;> try (rw [h]; done)
 split at h
 · rename_i e1 e2
   rw [dG e1,dG e2,of_decide_eq_true h]
 · cases h
theorem nz {x:Dv} (h:kdI x≠0):eqI x x=true:=by
 cases x <;> try (simp [kdI] at h; done)
 all_goals try (simp [eqI]; done)
 obtain ⟨ks,e,_⟩:=dQ h
 simp [eqI,e]
theorem vQ:∀ xs:List Str,kG xs xs=false
 | []=>rfl
 | x :: xs=>by rw [kG,if_pos rfl]; exact vQ xs
theorem vR:∀ {xs ys zs:List Str},kG xs ys=true→kG ys zs=true→kG xs zs=true
 | x :: xs,y :: ys,z :: zs,h1,h2=>by
  unfold kG at h1 h2 ⊢
  by_cases e1:x=y
  · subst e1
    rw [if_pos rfl] at h1
    by_cases e2:x=z
    · rw [if_pos e2] at h2 ⊢
      exact vR h1 h2
    · rw [if_neg e2] at h2 ⊢
      exact h2
  · rw [if_neg e1] at h1
    by_cases e2:y=z
    · subst e2
      rw [if_neg e1]
      exact h1
    · rw [if_neg e2] at h2
      have:=NC (of_decide_eq_true h1) (of_decide_eq_true h2)
      rw [if_neg fun e=>by subst e; exact Ng _ this]
      exact decide_eq_true this
 | [],_,_,h1,_=>by simp [kG] at h1
 | _ :: _,[],_,h1,_=>by simp [kG] at h1
 | _ :: _,_ :: _,[],_,h2=>by simp [kG] at h2
theorem qS (a b:Str) (h:¬ a.cps.toList < b.cps.toList) (h':¬ b.cps.toList < a.cps.toList):a=b:=by
 have e:a.cps.toList=b.cps.toList:=Os (Nd.mp h') (Nd.mp h)
 obtain ⟨⟨a⟩⟩:=a; obtain ⟨⟨b⟩⟩:=b
 simp at e
 rw [e]
theorem qT:∀ {xs ys:List Str},xs.length=ys.length→kG xs ys=false→kG ys xs=false→xs=ys
 | [],[],_,_,_=>rfl
 | x :: xs,y :: ys,hl,h1,h2=>by
  unfold kG at h1 h2
  by_cases e:x=y
  · subst e
    rw [if_pos rfl] at h1 h2
    rw [qT (by simpa using hl) h1 h2]
  · rw [if_neg e] at h1
    rw [if_neg (Im e)] at h2
    exact absurd (qS _ _ (of_decide_eq_false h1) (of_decide_eq_false h2)) e
 | [],_ :: _,h,_,_=>by simp at h
 | _ :: _,[],h,_,_=>by simp at h
theorem nA (x:Dv):ltI x x=false:=by
 cases x with
 | str a=>simp only [ltI,decide_eq_false_iff_not]; exact Ng _
 | int a=>simp [ltI]
 | bl a=>cases a <;> rfl
 | tup ds =>
  simp only [ltI]
  split
  · rename_i x y e1 e2
    rw [e1] at e2
    cases e2
    exact vQ x
  · rfl
 | _=>rfl
theorem nB {x y z:Dv} (h1:ltI x y=true) (h2:ltI y z=true):ltI x z=true:=by
 cases x <;> cases y <;> simp only [ltI,i_,decide_eq_true_eq] at h1 <;> cases z <;> simp only [ltI,i_,decide_eq_true_eq] at h2 ⊢
 · omega
 · omega
 · exact NC h1 h2
 · split at h1
   · rename_i x1 y1 e1 e2
     split at h2
     · rename_i y2 z2 e3 e4
       rw [e2] at e3
       cases e3
       rw [e1,e4]
       exact vR h1 h2
     · cases h2
   · cases h1
theorem qU {x y:Dv} (hk:kdI x=kdI y) (h0:kdI x≠0) (h1:ltI x y=false) (h2:ltI y x=false):x=y:=by
 cases x with
 | str a =>
  cases y with
  | str b =>
   simp only [ltI,decide_eq_false_iff_not] at h1 h2
   rw [qS _ _ h1 h2]
  | tup b=>obtain ⟨_,_,e⟩:=dQ (show kdI (.tup b)≠0 by rw [← hk]; exact h0); simp only [kdI] at hk e; rw [e] at hk; omega
  | _=>simp [kdI] at hk
 | int a =>
  cases y with
  | int b=>simp [ltI] at h1 h2; rw [show a=b by omega]
  | tup b=>obtain ⟨_,_,e⟩:=dQ (show kdI (.tup b)≠0 by rw [← hk]; exact h0); simp only [kdI] at hk e; rw [e] at hk; omega
  | _=>simp [kdI] at hk
 | bl a =>
  cases y with
  | bl b=>cases a <;> cases b <;> simp [ltI,b2i] at h1 h2 ⊢
  | tup b=>obtain ⟨_,_,e⟩:=dQ (show kdI (.tup b)≠0 by rw [← hk]; exact h0); simp only [kdI] at hk e; rw [e] at hk; omega
  | _=>simp [kdI] at hk
 | tup a =>
  obtain ⟨ks,e1,e2⟩:=dQ h0
  cases y with
  | tup b =>
   obtain ⟨js,e3,e4⟩:=dQ (show kdI (.tup b)≠0 by rw [← hk]; exact h0)
   simp only [ltI,e1,e3] at h1 h2
   rw [dG e1,dG e3,qT (by omega) h1 h2]
  | _=>simp only [kdI] at hk e2; rw [e2] at hk; omega
 | _=>exact absurd rfl h0
theorem vS:∀ xs:List Dv,ltL xs xs=false
 | []=>rfl
 | x :: xs=>by
  unfold ltL
  split
  · exact vS xs
  · exact nA x
theorem vT:∀ {xs ys zs:List Dv},ltL xs ys=true→ltL ys zs=true→ltL xs zs=true
 | x :: xs,y :: ys,z :: zs,h1,h2=>by
  unfold ltL at h1 h2 ⊢
  by_cases e1:eqI x y=true
  · have:=iO e1
    subst this
    rw [if_pos e1] at h1
    by_cases e2:eqI x z=true
    · rw [if_pos e2] at h2 ⊢
      exact vT h1 h2
    · rw [if_neg e2] at h2 ⊢
      exact h2
  · rw [if_neg e1] at h1
    by_cases e2:eqI y z=true
    · have:=iO e2
      subst this
      rw [if_neg e1]
      exact h1
    · rw [if_neg e2] at h2
      have:=nB h1 h2
      rw [if_neg fun e=>by
       have:=iO e
       subst this
       have:=nB h1 h2
       rw [nA] at this
       cases this]
      exact this
 | [],_,_,h1,_=>by simp [ltL] at h1
 | _ :: _,[],_,h1,_=>by simp [ltL] at h1
 | _ :: _,_ :: _,[],_,h2=>by simp [ltL] at h2
theorem vU:∀ {xs ys zs:List Dv},sig xs=sig ys→sig ys=sig zs→dZ (sig xs)=true→ltL xs zs=true→ltL xs ys=true∨ltL ys zs=true
 | x :: xs,y :: ys,z :: zs,s1,s2,hk,h=>by
  simp only [sig,t_,OF] at s1 s2
  simp only [sig,dZ,t_,Hw,g_,bne_iff_ne,ne_eq] at hk
  have hx:=hk.1
  unfold ltL at h ⊢
  by_cases e1:eqI x y=true
  · have:=iO e1
    subst this
    rw [if_pos e1]
    by_cases e2:eqI x z=true
    · rw [if_pos e2] at h ⊢
      exact vU s1.2 s2.2 (by simpa [dZ,sig] using hk.2) h
    · rw [if_neg e2] at h ⊢
      exact .inr h
  · rw [if_neg e1]
    by_cases e2:eqI y z=true
    · have:=iO e2
      subst this
      rw [if_neg e1] at h
      exact .inl h
    · rw [if_neg e2]
      cases hl:ltI x y with
      | true=>exact .inl rfl
      | false =>
       cases hr:ltI y z with
       | true=>exact .inr rfl
       | false =>
        exfalso
        have g1:ltI y x=true:=by
         cases q:ltI y x with
         | true=>rfl
         | false =>
          have:=qU s1.1 hx hl q
          subst this
          exact absurd (nz hx) e1
        have g2:ltI z y=true:=by
         cases q:ltI z y with
         | true=>rfl
         | false =>
          have:=qU s2.1 (by rw [← s1.1]; exact hx) hr q
          subst this
          exact absurd (nz (by rw [← s1.1]; exact hx)) e2
        have g3:=nB g2 g1
        by_cases e3:eqI x z=true
        · have:=iO e3
          subst this
          rw [nA] at g3
          cases g3
        · rw [if_neg e3] at h
          have:=nB h g3
          rw [nA] at this
          cases this
 | [],_,_,_,_,_,h=>by simp [ltL] at h
 | _ :: _,[],_,s1,_,_,_=>by simp [sig] at s1
 | _ :: _,_ :: _,[],_,s2,_,_=>by simp [sig] at s2
theorem qV {R:Nat→Nat→Prop} (as:∀ a b,R a b→R b a→False):∀ {l m:List Nat},l.Perm m→l.Pairwise R→m.Pairwise R→l=m
 | [],m,hp,_,_=>hp.nil_eq
 | x :: l,[],hp,_,_=>by simpa using hp.length_eq
 | x :: l,y :: m,hp,h1,h2=>by
  rw [GF] at h1 h2
  have e:x=y:=by
   rcases p_.mp (hp.mem_iff.mp (j_ (a:=x))) with e | hx
   · exact e
   · rcases p_.mp (hp.mem_iff.mpr (j_ (a:=y))) with e | hy
     · exact e.symm
     · exact (as _ _ (h1.1 y hy) (h2.1 x hx)).elim
  subst e
  rw [qV as hp.cons_inv h1.2 h2.2]
theorem Lex.as {blt:Nat→Nat→Bool} (O:Od blt) {a b:Nat} (h:Lex blt a b) (h':Lex blt b a):False:=by
 have:=h.tr O h'
 rcases this with q | q
 · rw [O.ir] at q; cases q
 · omega
theorem qW {blt:Nat→Nat→Bool} (O:Od blt) (x:Nat):∀ l:List Nat,(∀ y∈l,x < y)→l.Pairwise (Lex blt)→(oO (fun i j=>!blt j i) x l).Pairwise (Lex blt)
 | [],_,_=>by simp [oO]
 | y :: l,hx,h=>by
  unfold oO
  rw [GF] at h
  split
  · rename_i hc
    have hxy:Lex blt x y:=.of_le (by simpa using hc) (hx y j_)
    rw [GF,GF]
    refine ⟨fun z hz=>?_,h⟩
    rcases p_.mp hz with rfl | hz
    · exact hxy
    · exact hxy.tr O (h.1 z hz)
  · rename_i hc
    rw [GF]
    refine ⟨fun z hz=>?_,qW O x l (fun z hz=>hx z (k_ _ hz)) h.2⟩
    rcases p_.mp ((eS _ x l).mem_iff.mp hz) with rfl | hz
    · exact .inl (by simpa using hc)
    · exact h.1 z hz
theorem nF {blt:Nat→Nat→Bool} (O:Od blt):∀ l:List Nat,l.Pairwise (· < ·)→(aF (fun i j=>!blt j i) l).Pairwise (Lex blt)
 | [],_=>.nil
 | x :: l,h=>by
  rw [GF] at h
  exact qW O x _ (fun y hy=>h.1 y ((aH _ l).mem_iff.mp hy)) (nF O l h.2)
theorem qX {α β:Type} {le:α→α→Bool} {le':β→β→Bool} (f:α→β) (x:α):∀ l:List α,(∀ y∈l,le x y=le' (f x) (f y))→(oO le x l).map f=oO le' (f x) (l.map f)
 | [],_=>rfl
 | y :: l,h=>by
  have e:=h y j_
  simp only [oO,t_]
  rw [← e]
  split
  · rfl
  · rw [t_,qX f x l fun z hz=>h z (k_ _ hz)]
theorem sort_map {α β:Type} {le:α→α→Bool} {le':β→β→Bool} (f:α→β):∀ l:List α,(∀ x∈l,∀ y∈l,le x y=le' (f x) (f y))→(aF le l).map f=aF le' (l.map f)
 | [],_=>rfl
 | x :: l,h=>by
  simp only [aF,t_]
  rw [qX (le':=le') f x _ fun y hy=>h x j_ y (k_ _ ((aH _ l).mem_iff.mp hy)),sort_map f l fun a ha b hb=>h a (k_ _ ha) b (k_ _ hb)]
theorem gT:∀ (l m:List Nat),l.Nodup→(∀ x∈l,x∈m)→m.length≤l.length→l.Perm m
 | [],m,_,_,h=>by
  have:m=[]:=IT.mp (by simpa using h)
  subst this
  exact .refl _
 | x :: l,m,nd,hs,h=>by
  rw [Hx] at nd
  obtain ⟨m1,m2,rfl⟩:=List.append_of_mem (hs x j_)
  refine ((gT l (m1 ++ m2) nd.2 (fun y hy=>?_) (by simp at h ⊢; omega)).cons x).trans List.perm_middle.symm
  have:=hs y (k_ _ hy)
  simp only [F_,p_] at this ⊢
  rcases this with q | rfl | q
  · exact .inl q
  · exact (nd.1 hy).elim
  · exact .inr q
theorem lQ {n:Nat} {p:Nat→Nat} (hlt:∀ k,k < n→p k < n) (inj:∀ a b,a < n→b < n→p a=p b→a=b):((h_ n).map p).Perm (h_ n):=by
 have nd:((h_ n).map p).Nodup:=by
  rw [List.nodup_iff_pairwise_ne,Jr]
  refine (List.nodup_range (n:=n)).imp_of_mem fun {a b} ha hb hab e=>hab (inj a b (by simpa using ha) (by simpa using hb) e)
 have sub:∀ x∈(h_ n).map p,x∈h_ n:=fun x hx=>by
  obtain ⟨k,hk,rfl⟩:=Go.mp hx
  simpa using hlt k (by simpa using hk)
 exact gT _ _ nd sub (by simp)
theorem gU {blt:Nat→Nat→Bool} (O:Od blt) {n:Nat} {p:Nat→Nat} (hlt:∀ k,k < n→p k < n) (inj:∀ a b,a < n→b < n→p a=p b→a=b) (so:∀ a b,a < b→b < n→Lex blt (p a) (p b)) :
 (h_ n).map p=aF (fun i j=>!blt j i) (h_ n):=by
 refine qV (fun a b h h'=>h.as O h') ((lQ hlt inj).trans (aH _ _).symm) ?_ (nF O _ KH)
 rw [Jr]
 exact (KH (n:=n)).imp_of_mem fun {a b} ha hb hab=>so a b hab (by simpa using hb)
section
variable {prog:Program} {w:x_} {A:u_} {E:Value→c_→Prop} {s:c_}
theorem nG {R:List Value→c_→Prop}:∀ {fs:List Value},(∀ f∈fs,∃ T,∀ s':c_,s'.TypeIs f T)→(∀ ts,R ts s)→m_ (pi prog w) A (fs.mapM Oe) R E s
 | [],_,h=>by rw [List.mapM_nil]; exact d_ (h _)
 | f :: fs,hf,h=>by
  obtain ⟨T,hT⟩:=hf f j_
  rw [List.mapM_cons]
  refine b_ (Kp (hT s) ?_)
  exact b_ (nG (fun g hg=>hf g (k_ _ hg)) fun ts=>d_ (h _))
theorem Bb {vs fs:List Value} (hF:dP s.heap vs fs) (hf:∀ f∈fs,∃ T,∀ s':c_,s'.TypeIs f T) {R:Mm→c_→Prop} (h:∀ b,R (OH b) s):m_ (pi prog w) A (keyKind' vs.toArray) R E s:=by
 rw [keyKind'_eq,N_]
 refine b_ ?_
 rw [← bind_pure_comp]
 refine b_ (kB hF (d_ ?_))
 rw [if_pos (by simp)]
 refine b_ (J0 ?_)
 have e:(fs.map some).toArray.filterMap id=fs.toArray:=by simp
 rw [e,oneTypeOnly'_eq,N_]
 refine b_ (b_ ?_)
 rw [← bind_pure_comp]
 refine b_ (nG hf fun ts=>d_ ?_)
 split
 · exact d_ (d_ (h _))
 · exact d_ (d_ (h _))
end
section
variable {prog:Program} {w:x_} {A:u_} {E:Value→c_→Prop} {s:c_} {blt:Nat→Nat→Bool}
theorem ux {l:Addr} {vs fs:List Value} {Q:Value→c_→Prop} (hl:s.heap.IsList l vs.toArray) (h64:vs.length < 64) (O:Od blt) (hF:dP s.heap vs fs) (hf:∀ f∈fs,∃ T,∀ s':c_,s'.TypeIs f T)
 (hC:∀ (A':u_) (h':Heap) (i j:Nat) (x y:Value),A'.units≤A.units + 8→(∀ b o,s.heap.get? b=some o→h'.get? b=some o)→vs[i]?=some x→vs[j]?=some y→∃ a c xs ys rs,x=.ref a∧y=.ref c∧s.heap.IsTuple a xs∧s.heap.IsTuple c ys∧jy h' A' true (xs.toList.zip ys.toList) rs∧(bq rs).getD (decide (xs.size < ys.size))=blt i j)
 (h:∀ (L:Addr) (h':Heap) (tk:Nat) (out:List Value) (e:Nat) (p:Nat→Nat),h'.get? L=some (GM "list" out.toArray e)→s.heap.objs.size≤L→(∀ b o,s.heap.get? b=some o→h'.get? b=some o) →
   out.length=vs.length→(∀ k,k < vs.length→out[k]?=vs[p k]?)→(h_ vs.length).map p=aF (fun i j=>!blt j i) (h_ vs.length)→(∀ k,k < vs.length→p k < vs.length)→Q (.ref L) { s with heap:=h',toks:=tk }) :
 m_ (pi prog w) A (call (.builtin "sorted") [.ref l]) Q E s:=by
 refine Calls.call_function_entry kind_sorted plain_sorted entry_sorted (args_sorted1 _) ?_
 unfold K3.«sorted»
 refine b_ (m:=checkCount "sorted" 1 1 _) (d_ ?_)
 refine b_ (collect_list hl ?_ (line64 h64))
 refine b_ (LZ ?_ (line64 h64))
 generalize hH:(s.heap.push (GM "list" #[] 0)).update s.heap.objs.size (GK (· ++ vs.toArray))=H1
 have sz1:H1.objs.size=s.heap.objs.size + 1:=by rw [← hH,IR,KY]
 have up1:∀ b o,s.heap.get? b=some o→H1.get? b=some o:=fun b o q=>by
  have:=o_ q
  rw [← hH,Ho _ _ _ _ (z_ this),Ib _ _ _ (z_ this)]
  exact q
 have hoL:(H1.push (GM "list" vs.toArray 0)).get? H1.objs.size=some (GM "list" vs.toArray 0):=r_ _ rfl
 have up2:∀ b o,s.heap.get? b=some o→(eT (H1.push (GM "list" vs.toArray 0)) H1.objs.size vs).get? b=some o:=fun b o q=>by
  have q1:=up1 b o q
  have:=o_ q1
  unfold eT
  rw [Ib _ _ _ (by rw [KY,IR,KY]; exact z_ (HJ (HJ this))),Ib _ _ _ (by rw [IR,KY]; exact z_ (HJ this)),Ho _ _ _ _ (z_ this),Ib _ _ _ (z_ this)]
  exact q1
 have tup2:∀ a xs,s.heap.IsTuple a xs→(eT (H1.push (GM "list" vs.toArray 0)) H1.objs.size vs).IsTuple a xs:=fun a xs ⟨o,g,r⟩=>⟨o,up2 _ _ g,r⟩
 have F2:∀ {vs' fs':List Value},dP s.heap vs' fs'→dP (eT (H1.push (GM "list" vs.toArray 0)) H1.objs.size vs) vs' fs':=by
  intro vs' fs' hF'
  induction hF' with
  | nil=>exact .nil
  | cons a b _ ih=>exact .cons (tup2 _ _ a) b ih
 show m_ _ _ _ _ _ { s with heap:=H1.push (GM "list" vs.toArray 0) }
 refine b_ (GV (G9 slot_list_sort ⟨_,hoL,rfl⟩ entry_list_sort (A0 (s:={ s with heap:=H1.push (GM "list" vs.toArray 0) }) (Kd:=fun k=>∃ b,k=OH b) hoL h64 O (fun _ s1 J1=>?_) (fun kd hk=>?_) fun p out tk o1 o2 o3 o4 o5=>⟨_,rfl,?_⟩) (args_list_sort _)))
 · obtain ⟨tk,htk,rfl⟩:=J1
   exact Bb (s:={ s with heap:=eT (H1.push (GM "list" vs.toArray 0)) H1.objs.size vs,toks:=tk }) (F2 hF) hf fun b=>⟨⟨tk,htk,rfl⟩,b,rfl⟩
 · obtain ⟨b,rfl⟩:=hk
   intro i j x y s1 E' ex ey J1
   obtain ⟨tk,htk,rfl⟩:=J1
   have pz:∀ (k:Nat) (z:NB),(LV vs)[k]?=some z→vs[k]?=some z.1:=fun k z hz=>by
    have hk:k < vs.length:=by
     have:=(GR.mp hz).1
     rwa [MJ] at this
    unfold LV at hz
    simp [hk] at hz
    rw [n_ hk,← hz]
   obtain ⟨a,c,xs,ys,rs,e1,e2,t1,t2,it,eb⟩:=hC A.in1.in1 _ i j x.1 y.1 (by show A.units + 1 + 1≤_; omega) up2 (pz i x ex) (pz j y ey)
   rw [e1,e2]
   refine kA (s:={ s with heap:=eT (H1.push (GM "list" vs.toArray 0)) H1.objs.size vs,toks:=tk }) b (tup2 _ _ t1) (tup2 _ _ t2) it ⟨⟨tk,htk,rfl⟩,eb⟩
 · obtain ⟨e,he⟩:=sortedHeap_at (out:=out) hoL
   refine d_ ⟨_,rfl,h H1.objs.size _ tk out.toList e p (by rw [Array.toArray_toList]; exact he) (by rw [sz1]; exact IW _) (fun b o q=>?_) (by simpa using o1) (fun k hk=>by simpa using o2 k hk) (gU O o3 o4 o5) o3⟩
   have q1:=up1 b o q
   have:=o_ q1
   rw [sortedHeap_old (z_ this) (by rw [KY]; exact HJ this),Ib _ _ _ (z_ this)]
   exact q1
end
end TS
namespace FD
open PySem PySem.Spec PyProof.Rows L2 TS
def gW:List Dv→Option (List (List Dv))
 | []=>some []
 | .tup es :: r=>(gW r).map (es :: ·)
 | _=>none
def uy:List Dv→Bool
 | []=>false
 | d :: _=>decide (kdI d < 4)
def cA (rows:List (List Dv)):Bool:=decide (rows.length < 64) && rows.all fun r=>decide (sig r=sig (rows.headD [])) && uy r && dZ (sig r)
def eU:List Dv→Option (Rs Dv)
 | [.lst ds]=>match gW ds with
  | some rows=>if cA rows=true then some (.ok (.lst ((aF (fun a b=>!ltL b a) rows).map Dv.tup))) else none
  | none=>AT [.lst ds]
 | _=>none
theorem nH:∀ {ds:List Dv} {rows:List (List Dv)},gW ds=some rows→ds=rows.map Dv.tup
 | [],rows,h=>by cases h; rfl
 | .tup es :: r,rows,h=>by
  obtain ⟨rs,h1,rfl⟩:=Gq.mp (show (gW r).map (es :: ·)=some rows from h)
  rw [nH h1]
  rfl
 | .non :: _,_,h=>by cases h
 | .bl _ :: _,_,h=>by cases h
 | .int _ :: _,_,h=>by cases h
 | .str _ :: _,_,h=>by cases h
 | .lst _ :: _,_,h=>by cases h
 | .scr _ :: _,_,h=>by cases h
 | .exn _ :: _,_,h=>by cases h
section
variable {X:Cx} {pins:List (Addr×Obj)} {σ:L2.St} {H:Hp} {s:c_}
theorem kH {K:ck}:∀ {ds:List Dv} {ks:List Str} {us:List V},aV ds=some ks→Reps K H ds us→us=ks.map V.str:=by
 intro ds ks us h r
 have:=dG h
 subst this
 clear h
 induction ks generalizing us with
 | nil=>exact (show us=[] from r)
 | cons k ks ih =>
  obtain ⟨v,vs,rfl,r1,r2⟩:∃ v vs,us=v :: vs∧Rep K H (.str k) v∧Reps K H (ks.map Dv.str) vs:=r
  cases (show v=.str k from r1)
  rw [ih r2]
  rfl
theorem jz {h':Heap} {A:u_} (I:Inv X pins σ H s) (hu:A.units + 8 < cLine) (up:∀ b o,s.heap.get? b=some o→h'.get? b=some o):∀ {z:Bool} {es es':List Dv} {us us':List V} {tis tis':List Value},(z=true→uy es=true)→sig es=sig es'→dZ (sig es)=true→Reps X.K H es us→Reps X.K H es' us'→Vals us tis→Vals us' tis' →
 ∃ rs,jy h' A z (tis.zip tis') rs∧(bq rs).getD false=ltL es es'
 | z,[],[],us,us',tis,tis',_,_,_,r,r',v,v'=>by
  cases (show us=[] from r)
  cases v
  exact ⟨[],.nil,rfl⟩
 | z,x :: es,y :: es',us,us',tis,tis',hz,s,hk,r,r',v,v'=>by
  obtain ⟨u,us1,rfl,r1,r2⟩:∃ v us1,us=v :: us1∧Rep X.K H x v∧Reps X.K H es us1:=r
  obtain ⟨u',us1',rfl,r1',r2'⟩:∃ v us1,us'=v :: us1∧Rep X.K H y v∧Reps X.K H es' us1:=r'
  simp only [sig,t_,OF] at s
  simp only [sig,dZ,t_,Hw,g_,bne_iff_ne,ne_eq] at hk
  cases v with
  | cons v1 v2 =>
   cases v' with
   | cons v1' v2' =>
    obtain ⟨rs,i1,i2⟩:=jz I hu up (z:=false) (fun z=>by cases z) s.2 (by simpa [dZ,sig] using hk.2) r2 r2' v2 v2'
    rename_i b1 l1 b2 l2
    have one:∀ (p q:Value) (e l:Bool),iL h' A z p q e l→(if e=true then ltL es es' else l)=ltL (x :: es) (y :: es')→∃ rs,jy h' A z ((p,q) :: l1.zip l2) rs∧(bq rs).getD false=ltL (x :: es) (y :: es'):=fun p q e l h zz =>
     ⟨(e,l) :: rs,.cons h i1,by rw [ce,i2]; exact zz⟩
    have kt:∀ ds n,kdI (.tup ds)=n→n≠0→n < 4→False:=fun ds n e h0 h4=>by
     obtain ⟨_,_,e'⟩:=dQ (ds:=ds) (by omega)
     omega
    cases x with
    | str a =>
     cases y with
     | str b =>
      cases (show u=.str a from r1)
      cases (show u'=.str b from r1')
      obtain ⟨t,rfl⟩:=v1
      obtain ⟨t',rfl⟩:=v1'
      exact one _ _ _ _ (nv h' A z a b t t') rfl
     | tup b=>exact (kt b 1 s.1.symm (by decide) (by decide)).elim
     | _=>exact absurd s.1 (by simp [kdI])
    | int a =>
     cases y with
     | int b =>
      cases (show u=.int a from r1)
      cases (show u'=.int b from r1')
      obtain ⟨t,rfl⟩:=v1
      obtain ⟨t',rfl⟩:=v1'
      exact one _ _ _ _ (ny h' A z a b t t') rfl
     | tup b=>exact (kt b 2 s.1.symm (by decide) (by decide)).elim
     | _=>exact absurd s.1 (by simp [kdI])
    | bl a =>
     cases y with
     | bl b =>
      cases (show u=.bl a from r1)
      cases (show u'=.bl b from r1')
      cases v1
      cases v1'
      exact one _ _ _ _ (xT h' A z a b) rfl
     | tup b=>exact (kt b 3 s.1.symm (by decide) (by decide)).elim
     | _=>exact absurd s.1 (by simp [kdI])
    | tup ds =>
     obtain ⟨ks,e1,e2⟩:=dQ hk.1
     cases y with
     | tup ds' =>
      obtain ⟨js,e3,e4⟩:=dQ (ds:=ds') (by rw [← s.1]; exact hk.1)
      obtain ⟨a,xs,rfl,ha,rx⟩:=r1.tupE
      obtain ⟨c,ys,rfl,hc,ry⟩:=r1'.tupE
      cases v1
      cases v1'
      obtain ⟨its,q1,q2,_⟩:=I.tuple (SqT.of ha)
      obtain ⟨its2,p1,p2,_⟩:=I.tuple (SqT.of hc)
      have zf:z=false:=by
       cases z with
       | false=>rfl
       | true =>
        have:=hz rfl
        simp only [uy,decide_eq_true_eq] at this
        omega
      subst zf
      obtain ⟨o1,g1,g1'⟩:=q2
      obtain ⟨o2,g2,g2'⟩:=p2
      rw [kH e1 rx] at q1
      rw [kH e3 ry] at p1
      refine one _ _ _ _ (uw hu ⟨o1,up _ _ g1,g1'⟩ ⟨o2,up _ _ g2,g2'⟩ (by have:=s.1; omega) q1 p1) ?_
      simp only [ltL,eqI,ltI,e1,e3]
     | _=>have:=s.1; simp only [kdI] at this e2; rw [e2] at this; omega
    | _=>exact absurd rfl hk.1
 | _,[],_ :: _,_,_,_,_,_,s,_,_,_,_,_=>by simp [sig] at s
 | _,_ :: _,[],_,_,_,_,_,s,_,_,_,_,_=>by simp [sig] at s
end
theorem uz {K:ck} {H:Hp} {x:Dv} {v:V} {u:Value} (hk:kdI x≠0) (h4:kdI x < 4) (r:Rep K H x v) (rv:RelV v u):∃ T,∀ s':c_,s'.TypeIs u T:=by
 cases x with
 | str a=>cases (show v=.str a from r); obtain ⟨t,rfl⟩:=rv; exact ⟨"str",fun s=>KS s _ _⟩
 | int a=>cases (show v=.int a from r); obtain ⟨t,rfl⟩:=rv; exact ⟨"int",fun s=>NE s _ _⟩
 | bl a=>cases (show v=.bl a from r); cases rv; exact ⟨"bool",fun s=>N6 s _⟩
 | tup ds=>obtain ⟨_,_,e⟩:=dQ hk; omega
 | _=>exact absurd rfl hk
section
variable {X:Cx} {pins:List (Addr×Obj)} {σ:L2.St} {H:Hp} {s:c_}
theorem gX (I:Inv X pins σ H s):∀ {rows:List (List Dv)} {ws:List V} {its:List Value},(∀ r∈rows,uy r=true∧dZ (sig r)=true)→Reps X.K H (rows.map Dv.tup) ws→Vals ws its→∃ fs,dP s.heap its fs∧∀ f∈fs,∃ T,∀ s':c_,s'.TypeIs f T
 | [],ws,its,_,r,v=>by
  cases (show ws=[] from r)
  cases v
  exact ⟨[],.nil,by simp⟩
 | es :: rows,ws,its,h,r,v=>by
  obtain ⟨u,ws1,rfl,r1,r2⟩:∃ v ws1,ws=v :: ws1∧Rep X.K H (.tup es) v∧Reps X.K H (rows.map Dv.tup) ws1:=r
  obtain ⟨a,xs,rfl,ha,rx⟩:=r1.tupE
  cases v with
  | cons v1 v2 =>
   cases v1
   obtain ⟨fs,f1,f2⟩:=gX I (fun r hr=>h r (k_ _ hr)) r2 v2
   obtain ⟨tis,rt,pt,hz⟩:=I.tuple (SqT.of ha)
   obtain ⟨h1,h2⟩:=h es j_
   cases es with
   | nil=>cases h1
   | cons x es =>
    obtain ⟨u,us,rfl,q1,q2⟩:∃ v us,xs=v :: us∧Rep X.K H x v∧Reps X.K H es us:=rx
    cases rt with
    | cons w1 w2 =>
     rename_i t ts
     refine ⟨t :: fs,.cons pt (by simp) f1,fun f hf=>?_⟩
     rcases p_.mp hf with rfl | hf
     · simp only [sig,dZ,t_,Hw,g_,bne_iff_ne,ne_eq] at h2
       exact uz h2.1 (of_decide_eq_true h1) q1 w1
     · exact f2 f hf
theorem kJ (I:Inv X pins σ H s):∀ {rows:List (List Dv)} {ws:List V} {its:List Value} (i:Nat) (x:Value),Reps X.K H (rows.map Dv.tup) ws→Vals ws its→its[i]?=some x→∃ a us tis es,rows[i]?=some es∧ws[i]?=some (.ref a)∧x=.ref a∧Reps X.K H es us∧Vals us tis∧H a=some (.tup us)∧s.heap.IsTuple a tis.toArray
 | [],ws,its,i,x,r,v,h=>by
  cases (show ws=[] from r)
  cases v
  simp at h
 | es :: rows,ws,its,i,x,r,v,h=>by
  obtain ⟨u,ws1,rfl,r1,r2⟩:∃ v ws1,ws=v :: ws1∧Rep X.K H (.tup es) v∧Reps X.K H (rows.map Dv.tup) ws1:=r
  obtain ⟨a,xs,rfl,ha,rx⟩:=r1.tupE
  cases v with
  | cons v1 v2 =>
   cases v1
   cases i with
   | zero =>
    simp at h
    subst h
    obtain ⟨tis,rt,pt,hz⟩:=I.tuple (SqT.of ha)
    exact ⟨a,xs,tis,es,rfl,rfl,rfl,rx,rt,ha,pt⟩
   | succ i =>
    obtain ⟨a',us,tis,es',q1,q2,q⟩:=kJ I i x r2 v2 (by simpa using h)
    exact ⟨a',us,tis,es',by simpa using q1,by simpa using q2,q⟩
theorem bI {K:ck}:∀ {ds:List Dv} {ws:List V},Reps K H ds ws→ds.length=ws.length
 | [],ws,r=>by cases (show ws=[] from r); rfl
 | d :: ds,ws,r=>by
  obtain ⟨u,ws1,rfl,r1,r2⟩:∃ v ws1,ws=v :: ws1∧Rep K H d v∧Reps K H ds ws1:=r
  simp [bI r2]
theorem iP {K:ck} {ds:List Dv} {ws:List V} (hl:ds.length=ws.length) (h:∀ (i:Nat) (d:Dv) (v:V),ds[i]?=some d→ws[i]?=some v→Rep K H d v):Reps K H ds ws:=by
 induction ds generalizing ws with
 | nil=>cases ws with
  | nil=>exact rfl
  | cons _ _=>simp at hl
 | cons d ds ih=>cases ws with
  | nil=>simp at hl
  | cons w ws=>exact ⟨w,ws,rfl,h 0 d w rfl rfl,ih (by simpa using hl) fun i d' v e1 e2=>h (i + 1) d' v (by simpa using e1) (by simpa using e2)⟩
theorem reps_at {K:ck}:∀ {ds:List Dv} {ws:List V},Reps K H ds ws→∀ (i:Nat) (d:Dv) (v:V),ds[i]?=some d→ws[i]?=some v→Rep K H d v
 | [],_,_,i,d,v,h,_=>by simp at h
 | d0 :: ds,ws,r,i,d,v,h,h'=>by
  obtain ⟨u,ws1,rfl,r1,r2⟩:∃ v ws1,ws=v :: ws1∧Rep K H d0 v∧Reps K H ds ws1:=r
  cases i with
  | zero=>simp at h h'; subst h; subst h'; exact r1
  | succ i=>exact reps_at r2 i d v (by simpa using h) (by simpa using h')
theorem iQ {ws:List V} {its:List Value} (hl:ws.length=its.length) (h:∀ (i:Nat) (v:V) (u:Value),ws[i]?=some v→its[i]?=some u→RelV v u):Vals ws its:=by
 induction ws generalizing its with
 | nil=>cases its with
  | nil=>exact .nil
  | cons _ _=>simp at hl
 | cons d ds ih=>cases its with
  | nil=>simp at hl
  | cons w ws=>exact .cons (h 0 d w rfl rfl) (ih (by simpa using hl) fun i d' v e1 e2=>h (i + 1) d' v (by simpa using e1) (by simpa using e2))
def bS (rows:List (List Dv)) (i:Nat):List Dv:=rows.getD i (rows.headD [])
theorem gY {rows:List (List Dv)} (h:∀ r∈rows,sig r=sig (rows.headD [])∧uy r=true∧dZ (sig r)=true) (i:Nat):sig (bS rows i)=sig (rows.headD [])∧dZ (sig (bS rows i))=true:=by
 unfold bS
 cases rows with
 | nil=>exact ⟨rfl,rfl⟩
 | cons r rows =>
  by_cases hi:i < (r :: rows).length
  · have e:(r :: rows).getD i ((r :: rows).headD [])=(r :: rows)[i]:=by
     unfold Iw
     rw [n_ hi]
     rfl
    rw [e]
    have:=h _ (Mt hi)
    exact ⟨this.1,this.2.2⟩
  · have e:(r :: rows).getD i ((r :: rows).headD [])=r:=by
     unfold Iw
     rw [GE (by omega)]
     rfl
    rw [e]
    exact ⟨rfl,(h r j_).2.2⟩
theorem qY {rows:List (List Dv)} (h:∀ r∈rows,sig r=sig (rows.headD [])∧uy r=true∧dZ (sig r)=true):Od fun i j=>ltL (bS rows i) (bS rows j) where
 ir:=fun a=>vS _
 tr:=fun a b c h1 h2=>vT h1 h2
 nt:=fun a b c h1=>vU ((gY h a).1.trans (gY h b).1.symm) ((gY h b).1.trans (gY h c).1.symm) (gY h a).2 h1
theorem d5 {rows:List (List Dv)} {i:Nat} {es:List Dv} (h:rows[i]?=some es):bS rows i=es:=by
 unfold bS Iw
 rw [h]
 rfl
theorem lR (rows:List (List Dv)):(aF (fun i j=>!(fun i j=>ltL (bS rows i) (bS rows j)) j i) (h_ rows.length)).map (bS rows)=aF (fun a b=>!ltL b a) rows:=by
 have e:(h_ rows.length).map (bS rows)=rows:=by
  apply KL
  intro i
  by_cases hi:i < rows.length
  · rw [E_,HM hi,n_ hi]
    show some (bS rows i)=_
    rw [d5 (n_ hi)]
  · rw [GE (by simpa using hi),GE (by omega)]
 rw [sort_map (le':=fun a b=>!ltL b a) (bS rows) _ fun x _ y _=>rfl,e]
theorem oW (hu:X.A.units + 64 < cLine):CallR X (.builtin "sorted") (fun xs H Q=>∃ a ws rows,xs=[.ref a]∧H a=some (.lst ws)∧Reps X.K H (rows.map Dv.tup) ws∧cA rows=true ∧
 ∀ l ws',H l=none→Reps X.K H ((aF (fun a b=>!ltL b a) rows).map Dv.tup) ws'→Q (.ref l) (upd H l (.lst ws'))):=by
 intro pins s σ H xs us Q I r h
 obtain ⟨a,ws,rows,rfl,h1,h2,h3,q⟩:=h
 obtain ⟨u,rfl,ru⟩:=fq r
 cases ru
 obtain ⟨z,its,n,rv,hl,e⟩:=I.lstM h1
 simp only [cA,g_,decide_eq_true_eq,Gv] at h3
 have hr:∀ r∈rows,sig r=sig (rows.headD [])∧uy r=true∧dZ (sig r)=true:=fun r hr=>⟨(h3.2 r hr).1.1,(h3.2 r hr).1.2,(h3.2 r hr).2⟩
 have hlen:rows.length=its.length:=by
  have g1:=bI h2
  have g2:=rv.length
  simp at g1
  omega
 obtain ⟨fs,f1,f2⟩:=gX I (fun r hr'=>(hr r hr').2) h2 rv
 refine ux (vs:=its) ⟨_,e,rfl,n,rfl⟩ (by omega) (qY hr) f1 f2 (fun A' hp i j x y hA up ex ey=>?_) fun L h' tk out ep p g1 g2 g3 g4 g5 g6 g7=>?_
 · obtain ⟨a1,us1,t1,es1,q1,q2,q3,q4,q5,q6,q7⟩:=kJ I i x h2 rv ex
   obtain ⟨a2,us2,t2,es2,p1,p2,p3,p4,p5,p6,p7⟩:=kJ I j y h2 rv ey
   have m1:=hr es1 (G6 q1)
   have m2:=hr es2 (G6 p1)
   obtain ⟨rs,i1,i2⟩:=jz (A:=A') (z:=true) I (by omega) up (fun _=>m1.2.1) (m1.1.trans m2.1.symm) m1.2.2 q4 p4 q5 p5
   refine ⟨a1,a2,t1.toArray,t2.toArray,rs,q3,p3,q7,p7,by simpa using i1,?_⟩
   have hsz:t1.toArray.size=t2.toArray.size:=by
    have k1:=q5.length
    have k2:=p5.length
    have k3:=bI q4
    have k4:=bI p4
    have k5:(sig es1).length=(sig es2).length:=by rw [m1.1,m2.1]
    simp [sig] at k5
    simp
    omega
   rw [hsz,decide_eq_false (Hj _),i2,d5 q1,d5 p1]
 · have hws:ws.length=its.length:=rv.length
   have hV:Vals ((h_ its.length).map fun k=>ws.getD (p k) .non) out:=by
    refine iQ (by simp [g4]) fun i v u ev eu=>?_
    have hi:i < its.length:=by
     have:=(xy.mp eu).1
     omega
    rw [g5 i hi] at eu
    rw [E_,HM hi] at ev
    simp only [HN,IA] at ev
    have hp:p i < ws.length:=by rw [hws]; exact g7 i hi
    have e1:ws[p i]?=some v:=by rw [n_ hp,← ev]; simp [Iw,hp]
    obtain ⟨u',e2,r2⟩:=rv.get e1
    rw [e2] at eu
    cases eu
    exact r2
   have hR:Reps X.K H ((aF (fun a b=>!ltL b a) rows).map Dv.tup) ((h_ its.length).map fun k=>ws.getD (p k) .non):=by
    rw [← lR rows,hlen,← g6,G7,G7]
    refine iP (by simp) fun i d v ed ev=>?_
    have hi:i < its.length:=by
     have:=(xy.mp ed).1
     simpa using this
    rw [E_,HM hi] at ed ev
    simp only [HN,IA,JV] at ed ev
    have hp:p i < ws.length:=by rw [hws]; exact g7 i hi
    have hp':p i < rows.length:=by rw [hlen]; exact g7 i hi
    refine reps_at h2 (p i) d v ?_ ?_
    · rw [E_,n_ hp',← ed,d5 (n_ hp')]
      rfl
    · rw [n_ hp,← ev]
      simp [Iw,hp]
   refine ⟨.ref L,_,I.laid (h':=h') (t':=tk) (o:=.lst ((h_ its.length).map fun k=>ws.getD (p k) .non)) g3 g2 ?_,rfl,q L _ (I.hok.fresh g2) hR⟩
   exact ⟨line64 (by simp; omega),out,ep,hV,by simpa [GM] using g1⟩
end
section
variable {X:Cx} {p pos:Pos} {e:Expr} {es:List Expr} {ga:FnA}
theorem uA (hu:X.A.units + 64 < cLine) (hg:Gl X "sorted") (hm:X.mg "sorted"=none) (ha:FA X (e :: es) ga) (he:e_ (e :: es) X.env=(false,eval e X.env) :: e_ es X.env:=by kernel_rfl) (hpl:(GA pos (e_ es X.env)).any (·.1)=false:=by kernel_rfl):FE X (.Call (.Name "sorted" p) (e :: es) [] pos) (fB1 eU ga) :=
 bO (dC ((oW hu).or qM) hg hm (by decide +kernel) ha.h (by decide) (by decide) he hpl) fun σ H Q ρ E o=>⟨ρ,E,OutA.bind o fun ds vs H1 e1 rs o1=>by
  unfold eU at o1
  split at o1
  · rename_i xs
    obtain ⟨v,rfl,r⟩:=dg rs
    obtain ⟨a,ws,rfl,h1,h2⟩:=r.lstE
    split at o1
    · rename_i rows hrows
      split at o1
      · rename_i hok
        rw [nH hrows] at h2
        exact .inl ⟨a,ws,rows,rfl,h1,h2,hok,fun l ws' hl' rw'=>o1 _ _ (au hl' _) ⟨l,_,rfl,am,Reps.mono (au hl' _) _ _ rw'⟩⟩
      · exact o1.elim
    · refine .inr ?_
      have o2:Out X H1 (match dO xs with
       | some ns=>if ns.length < 64 then some (Rs.ok (Dv.lst (List.map Dv.int (aF leI ns)))) else none
       | none=>match aV xs with
        | some ss=>if ss.length < 64 then some (Rs.ok (Dv.lst (List.map Dv.str (aF leS ss)))) else none
        | none=>none) Q:=o1
      split at o2
      · rename_i ns hb
        split at o2
        · rename_i hl
          exact ⟨a,ws,xs,rfl,h1,h2,.inl ⟨ns,hb,hl,fun l hl'=>o2 _ _ (au hl' _) ⟨l,_,rfl,am,ku _ _⟩⟩⟩
        · exact o2.elim
      · split at o2
        · rename_i ns hb
          split at o2
          · rename_i hl
            exact ⟨a,ws,xs,rfl,h1,h2,.inr ⟨ns,hb,hl,fun l hl'=>o2 _ _ (au hl' _) ⟨l,_,rfl,am,iJ _ _⟩⟩⟩
          · exact o2.elim
        · exact o2.elim
  · exact o1.elim⟩
end
end FD
namespace FD
open PySem PySem.Spec PyProof.Rows L2 PySem.W
section
variable {X:Cx} {hx:Expr} {body:List Stmt} {f:FnS} {g:FnE} {J n:Str} {CJ:Addr} {np rp2 hpos pos:Pos}
end
end FD
namespace FD
open PySem PySem.Spec PyProof.Rows L2 TS
section
variable {X:Cx} {pins:List (Addr×Obj)} {σ:L2.St} {H:Hp} {s:c_} {k:Nat} {f:Addr} {fd:Ha} {ps:List Str} {F:List Dv→Option (Rs Dv)} {A':u_} {E:Value→c_→Prop}
theorem Bc (G:FnOk X.prog X.w X.K X.mg X.base CX0 k f fd ps (spF X.K F ps.length)) (hr:Room k A') (hfr:A'.frames=X.A.frames) (hb:Binds X.K fd ps []) (I:Inv X pins σ H s) {v:V} {u:Value} {d d':Dv} (rv:RelV v u) (r:Rep X.K H d v) (h1:ps.length=1) (hF:F [d]=some (.ok d')) :
 m_ (pi X.prog X.w) A' (call (.ref f) [u]) (EP X pins σ fun v' H'=>Same H H'∧Rep X.K H' d' v') E s:=by
 have e0:=I.env0
 refine Lu (JE (G.run A' X.stack s H ⟨[u],[]⟩ [u] [v] (fun v' H'=>Same H H'∧Rep X.K H' d' v') E0 hr ⟨hfr.trans e0.frames,e0.mod,e0.bs,e0.bsz,e0.funs,e0.frf,e0.hok,e0.bare⟩ (by simpa using hb s [u] I.kIn (by simp [h1])) (.cons rv .nil) ⟨[d],⟨v,[],rfl,r,rfl⟩,h1.symm,by rw [hF]; exact fun v H' e r=>⟨e,r⟩⟩) fun r s' hq=>?_)
 cases r with
 | error e=>exact hq.elim
 | ok fl =>
  cases fl with
  | ret u=>exact I.after hq
  | next=>exact Gz hq
  | brk=>exact Gz hq
  | cont=>exact Gz hq
end
end FD
namespace TS
open PySem PyProof.Rows FD
section
variable {prog:Program} {w:x_} {A:u_} {E:Value→c_→Prop} {s:c_} {blt:Nat→Nat→Bool}
theorem vV {a kS:Addr} {e1 c:Nat} {its:Array Value} {st:KC} {P:Nm→c_→Prop} (hk:s.heap.get? kS=some (GM "list" its c)) (ha:s.heap.get? a=some (GM "list" #[] e1)) (hne:kS≠a) (hz:its.size≤sizeLine) (hz2:(K_ st).size≤sizeLine) (hf:Nc st=none)
 (h:P (.done (.ret .none)) { s with heap:=(s.heap.update kS (GK fun _=>#[])).update a (GK fun _=>(K_ st).map (·.2)) }):m_ (pi prog w) A (ksk_tail a false e1 (.ref kS) st) P E s:=by
 unfold ksk_tail
 refine b_ (Jk hk rfl ?_ hz (GI _))
 refine b_ (wpAny_letGo ?_)
 have ha2:(s.heap.update kS (GK fun _=>#[])).get? a=some (GM "list" #[] e1):=by
  rw [Ho _ _ _ _ hne.symm]; exact ha
 refine b_ (LU (s:={ s with heap:=s.heap.update kS (GK fun _=>#[]) }) ha2 rfl ?_)
 refine b_ (Jk (s:={ s with heap:=s.heap.update kS (GK fun _=>#[]) }) ha2 rfl ?_ (GI _) (by simp only [i_,if_false,Ik]; omega))
 rw [hf]
 simp only [bne_self_eq_false,i_,if_false]
 exact d_ h
theorem Ef {a kS:Addr} {e1 c:Nat} {its vs fs:List Value} {P:Nm→c_→Prop} (hk:s.heap.get? kS=some (GM "list" its.toArray c)) (ha:s.heap.get? a=some (GM "list" #[] e1)) (hne:kS≠a) (hlen:its.length=vs.length) (h64:vs.length < 64) (O:Od blt)
 (hF:dP s.heap its fs) (hf:∀ f∈fs,∃ T,∀ s':c_,s'.TypeIs f T)
 (hC:∀ (A':u_) (i j:Nat) (x y:Value),A'.units≤A.units + 8→its[i]?=some x→its[j]?=some y→∃ a c xs ys rs,x=.ref a∧y=.ref c∧s.heap.IsTuple a xs∧s.heap.IsTuple c ys∧jy s.heap A' true (xs.toList.zip ys.toList) rs∧(bq rs).getD (decide (xs.size < ys.size))=blt i j)
 (h:∀ (p:Nat→Nat) (out:Array Value) (tk:Nat),out.size=vs.length→(∀ k,k < vs.length→out[k]?=vs[p k]?)→(h_ vs.length).map p=aF (fun i j=>!blt j i) (h_ vs.length)→(∀ k,k < vs.length→p k < vs.length) →
   P (.done (.ret .none)) { s with heap:=(s.heap.update kS (GK fun _=>#[])).update a (GK fun _=>out),toks:=tk }) :
 m_ (pi prog w) A (ksk_end a false vs.toArray e1 (.ref kS) its.toArray) P E s:=by
 unfold ksk_end
 simp only [i_,if_false]
 have hz:its.toArray.size≤sizeLine:=line64 (by simp; omega)
 have pz:(its.toArray.zip vs.toArray).size=vs.length:=by simp [hlen]
 have pat:∀ k,k < vs.length→(its.toArray.zip vs.toArray)[k]?=some (its.getD k .none,vs.getD k .none):=fun k hk=>by
  have:k < its.length:=by omega
  have hz':k < (its.zip vs).length:=by simp; omega
  have e:(its.zip vs)[k]?=some (its[k],vs[k]):=by rw [n_ hz',Ot]
  simp [hk,this,Iw,e]
 have hsz:vs.toArray.size=vs.length:=by simp
 by_cases h2:vs.toArray.size < 2
 · rw [if_pos h2,if_pos h2]
   refine b_ (d_ ?_)
   rw [MO]
   refine b_ (d_ ?_)
   dsimp only
   refine vV (st:=OW general' (its.toArray.zip vs.toArray) #[] 7 none) hk ha hne hz (line64 (by rw [pz]; exact h64)) rfl ?_
   have:=h id ((its.toArray.zip vs.toArray).map (·.2)) s.toks (by rw [Ik,pz]) (fun k hk=>by
    rw [Il,pat k hk]
    simp [hk,Iw]) (gU O (fun k hk=>hk) (fun _ _ _ _ e=>e) (fun x y hxy hy=>by rw [hsz] at h2; omega)) (fun k hk=>hk)
   exact this
 · rw [if_neg h2,if_neg h2]
   rw [hsz] at h2
   refine b_ (Bb hF hf fun b=>?_)
   refine b_ (GC (vP (J:=JT s s.heap) (E:=E) (Q:=fun _ st'=>∃ p',Cy (its.toArray.zip vs.toArray) blt p' (K_ st')∧Nc st'=none) (p:=id) O
    (fun i j x y s1 E' ex ey J1=>?_)
    (st:=OW (OH b) (its.toArray.zip vs.toArray) #[] 7 none) ⟨rfl,fun _ _=>rfl,fun _ h=>h,fun _ _ _ _ e=>e,rfl,rfl,rfl⟩ (fun _ _=>rfl) (by rw [pz]; omega) (by rw [pz]; exact h64) (fun p' st' a1 a2=>⟨p',a1,a2⟩) s ⟨s.toks,l_ _,rfl⟩) ?_ fun _ _ e=>e)
   · obtain ⟨tk,htk,rfl⟩:=J1
     have at1:∀ (k:Nat) (z:NB),(its.toArray.zip vs.toArray)[k]?=some z→its[k]?=some z.1:=fun k z hz=>by
      have hk:k < vs.length:=by
       have:=(GR.mp hz).1
       rwa [pz] at this
      rw [pat k hk] at hz
      cases hz
      have:k < its.length:=by omega
      simp [this,Iw]
     obtain ⟨a1,c1,xs,ys,rs,e1',e2',t1,t2,it,eb⟩:=hC A i j x.1 y.1 (by omega) (at1 i x ex) (at1 j y ey)
     rw [e1',e2']
     exact kA (s:={ s with heap:=s.heap,toks:=tk }) b t1 t2 it ⟨⟨tk,htk,rfl⟩,eb⟩
   · rintro ⟨⟨⟩,st'⟩ s' ⟨⟨tk,_,rfl⟩,p',F,hfl⟩
     dsimp only
     have Fl:=F.lt
     have Fi:=F.inj
     have Fs:=F.so
     rw [pz] at Fl Fi Fs
     refine vV (s:={ s with heap:=s.heap,toks:=tk }) hk ha hne hz (by rw [F.sz,pz]; exact line64 h64) hfl ?_
     refine h p' ((K_ st').map (·.2)) tk (by rw [Ik,F.sz,pz]) (fun k hk=>?_) (gU O Fl Fi Fs) Fl
     rw [Il,F.at' k (by rw [pz]; exact hk),pat _ (Fl k hk)]
     simp [Fl k hk,Iw]
end
end TS
namespace FD
open PySem PySem.Spec PyProof.Rows L2 TS
section
variable {X:Cx} {pins:List (Addr×Obj)} {σ:L2.St} {H:Hp} {s:c_} {k:Nat} {f:Addr} {fd:Ha} {ps:List Str} {F:List Dv→Option (Rs Dv)} {A':u_} {E:Value→c_→Prop}
theorem kK:∀ {ds:List Dv} (n:Nat),imms ds=true→imms (ds.take n)=true
 | [],n,_=>by simp [imms]
 | d :: ds,0,_=>by simp [imms]
 | d :: ds,n + 1,h=>by
  simp only [imms,g_] at h
  simp only [List.take_succ_cons,imms,g_]
  exact ⟨h.1,kK n h.2⟩
theorem Bd {a kS:Addr} {e1:Nat} {vs:List Value} {ws:List V} {ds:List Dv} {rows:List (List Dv)} {P:Nm→c_→Prop}
 (G:FnOk X.prog X.w X.K X.mg X.base CX0 k f fd ps (spF X.K F ps.length)) (hr:Room k A') (hfr:A'.frames=X.A.frames) (hb:Binds X.K fd ps []) (h1:ps.length=1)
 (I:Inv X (pins ++ [(a,GM "list" #[] e1)]) σ H s) (hk:H kS=some (.lst [])) (hne:kS≠a) (rv:Vals ws vs) (rw':Reps X.K H ds ws) (im:imms ds=true)
 (hkey:∀ (i:Nat) (d:Dv),ds[i]?=some d→∃ es,rows[i]?=some es∧F [d]=some (.ok (.tup es))) (hlen:rows.length=ds.length) (hok:cA rows=true) (imk:imms (rows.map Dv.tup)=true) (fpa:∀ H',H' a=none→oo X pins H' a)
 (h:∀ (s':c_) (H':Hp) (p:Nat→Nat) (out:Array Value) (c:Nat),Inv X pins σ H' s'→H' a=none→(∀ b u,b≠kS→H b=some u→H' b=some u)→s'.heap.get? a=some (GM "list" out c)→out.size=vs.length→(∀ k,k < vs.length→out[k]?=vs[p k]?) →
   (h_ vs.length).map p=aF (fun i j=>!(fun i j=>ltL (bS rows i) (bS rows j)) j i) (h_ vs.length)→(∀ k,k < vs.length→p k < vs.length)→P (.done (.ret .none)) s') :
 m_ (pi X.prog X.w) A' (ksk_rest a (.ref f) false vs.toArray e1 (.ref kS)) P E s:=by
 have hok':=hok
 simp only [cA,g_,decide_eq_true_eq,Gv] at hok'
 have hR:∀ r∈rows,sig r=sig (rows.headD [])∧uy r=true∧dZ (sig r)=true:=fun r hr=>⟨(hok'.2 r hr).1.1,(hok'.2 r hr).1.2,(hok'.2 r hr).2⟩
 have hl2:ds.length=vs.length:=by have g1:=bI rw'; have g2:=rv.length; omega
 have h64:vs.length < 64:=by omega
 unfold ksk_rest
 refine b_ (J0 ?_)
 first
  | rw [List.forIn_toArray]
  | (rw [← Kg]; simp only [IL])
  | rw [← Kg]
 refine b_ (ksk_fold (fun i s'=>∃ H' zs,Inv X (pins ++ [(a,GM "list" #[] e1)]) σ H' s'∧H' kS=some (.lst zs)∧(∀ b u,b≠kS→H b=some u→H' b=some u)∧Reps X.K H' ((rows.map Dv.tup).take i) zs) vs 0 s ⟨H,[],I,hk,fun _ _ _ e=>e,rfl⟩ ?step ?done)
 case step =>
  rintro j x s' hx ⟨H',zs,I',hk',sm,rz⟩
  simp only [Jc] at rz ⊢
  have hj:j < vs.length:=(xy.mp hx).1
  have hjd:ds[j]?=some (ds[j]'(by omega)):=n_ (by omega)
  obtain ⟨es,er,eF⟩:=hkey j _ hjd
  have hjw:ws[j]?=some (ws[j]'(by have:=rv.length; omega)):=n_ (by have:=rv.length; omega)
  have hjl:j < ws.length:=by have:=rv.length; omega
  have hjl2:j < ds.length:=by omega
  obtain ⟨u,eu,ru⟩:=rv.get hjw
  rw [hx] at eu
  cases eu
  have tupk:∀ b ys,H b=some (.tup ys)→H' b=some (.tup ys):=fun b ys q=>sm b _ (fun z=>by rw [z,hk] at q; cases q) q
  have rd:Rep X.K H' ds[j] ws[j]:=Rep.tups tupk _ _ (eQ im hjd) (reps_at rw' j _ _ hjd hjw)
  refine b_ (IE (GC (Bc G hr hfr hb I' ru rd h1 eF (E:=fun _ _=>False)) (fun u' s2 he=>?_) fun _ _ z=>z.elim))
  obtain ⟨v',H2,I2,rv2,sm2,rp2⟩:=he
  dsimp only
  have hk2:H2 kS=some (.lst zs):=sm2 _ _ hk'
  obtain ⟨z,its,n,rvk,hlk,ek⟩:=I2.lstM hk2
  have hzl:zs.length≤62:=by have:=bI rz; simp at this; omega
  have hil:its.length≤62:=by have:=rvk.length; omega
  refine b_ (Jk ek rfl ?_ (by simp; exact line64 (by omega)) (by simp; omega))
  have tup2:∀ b ys,H2 b=some (.tup ys)→(upd H2 kS (.lst (zs ++ [v']))) b=some (.tup ys):=fun b ys q=>by
   rw [ao (fun z=>by rw [z,hk2] at q; cases q)]; exact q
  obtain ⟨n2,ek2⟩:∃ n2,(s2.heap.update kS (GK (·.push u'))).get? kS=some (GM "list" (its.toArray.push u') n2):=⟨_,JX (c:="list") ek (·.push u')⟩
  refine d_ ⟨rfl,upd H2 kS (.lst (zs ++ [v'])),zs ++ [v'],?_,am,fun b u hb q=>?_,?_⟩
  · refine I2.write (t':=s2.toks) (x:=kS) (e:=kS) (o:=.lst (zs ++ [v'])) (by rw [hk2]; trivial) (.inl rfl) (fun b u hb q=>?_) ⟨_,ek2⟩ ?_
    · rw [Ho _ _ _ _ hb]; exact q
    · refine ⟨by simp; exact line64 (by omega),its ++ [u'],n2,rvk.append (.cons rv2 .nil),?_⟩
      simpa [GM] using ek2
  · rw [ao hb]
    exact sm2 _ _ (sm b u hb q)
  · have hrow:(rows.map Dv.tup).take (j + 1)=(rows.map Dv.tup).take j ++ [.tup es]:=by
     rw [List.take_add_one,E_,er]
     rfl
    rw [hrow]
    have g1:Reps X.K (upd H2 kS (.lst (zs ++ [v']))) ((rows.map Dv.tup).take j) zs:=Reps.tups tup2 _ _ (kK j imk) (Reps.mono sm2 _ _ rz)
    have ime:imm (.tup es)=true:=eQ imk (n:=j) (by rw [E_,er]; rfl)
    exact g1.append ⟨v',[],rfl,Rep.tups tup2 _ _ ime rp2,rfl⟩
 case done =>
  rintro s' ⟨H',zs,I',hk',sm,rz⟩
  have rz':Reps X.K H' (rows.map Dv.tup) zs:=by
   rw [List.take_of_length_le (by simp; omega)] at rz
   exact rz
  obtain ⟨z,its,n,rvk,hlk,ek⟩:=I'.lstM hk'
  have hzl:zs.length=vs.length:=by have:=bI rz'; simp at this; omega
  have hil:its.length=vs.length:=by have:=rvk.length; omega
  refine b_ (KB ek rfl ?_)
  obtain ⟨fs,f1,f2⟩:=gX I' (fun r hr'=>(hR r hr').2) rz' rvk
  have hpa:=I'.pin (a,GM "list" #[] e1) (by simp)
  refine Ef (blt:=fun i j=>ltL (bS rows i) (bS rows j)) (c:=n) ek hpa.1 hne hil h64 (qY hR) f1 f2 (fun A2 i j x y hA ex ey=>?_) fun p out tk o1 o2 o3 o4=>?_
  · obtain ⟨a1,us1,t1,es1,q1,q2,q3,q4,q5,q6,q7⟩:=kJ I' i x rz' rvk ex
    obtain ⟨a2,us2,t2,es2,p1,p2,p3,p4,p5,p6,p7⟩:=kJ I' j y rz' rvk ey
    have m1:=hR es1 (G6 q1)
    have m2:=hR es2 (G6 p1)
    obtain ⟨rs,i1,i2⟩:=jz (A:=A2) (z:=true) I' (by have:=hr.un; omega) (fun _ _ e=>e) (fun _=>m1.2.1) (m1.1.trans m2.1.symm) m1.2.2 q4 p4 q5 p5
    refine ⟨a1,a2,t1.toArray,t2.toArray,rs,q3,p3,q7,p7,by simpa using i1,?_⟩
    have hsz:t1.toArray.size=t2.toArray.size:=by
     have k1:=q5.length
     have k2:=p5.length
     have k3:=bI q4
     have k4:=bI p4
     have k5:(sig es1).length=(sig es2).length:=by rw [m1.1,m2.1]
     simp [sig] at k5
     simp
     omega
    rw [hsz,decide_eq_false (Hj _),i2,d5 q1,d5 p1]
  · obtain ⟨n2,ek2⟩:∃ n2,(s'.heap.update kS (GK fun _=>#[])).get? kS=some (GM "list" #[] n2):=⟨_,JX (c:="list") ek (fun _=>(#[]:Array Value))⟩
    have W:=I'.write (t':=tk) (h':=s'.heap.update kS (GK fun _=>#[])) (x:=kS) (e:=kS) (o:=.lst []) (by rw [hk']; trivial) (.inl rfl) (fun b u hb q=>by rw [Ho _ _ _ _ hb]; exact q) ⟨_,ek2⟩ ⟨GI _,[],n2,.nil,by simpa [GM] using ek2⟩
    have W2:=W.unpinned
    have hna:upd H' kS (.lst []) a=none:=by rw [ao hne.symm]; exact hpa.2.1
    have ha2:(s'.heap.update kS (GK fun _=>#[])).get? a=some (GM "list" #[] e1):=by rw [Ho _ _ _ _ hne.symm]; exact hpa.1
    obtain ⟨g0,g1,g2,g3⟩:=fpa _ hna
    have T:=W2.turned (t':=tk) (h':=(s'.heap.update kS (GK fun _=>#[])).update a (GK fun _=>out)) (it:=a) (fun b o hb q=>by rw [Ho _ _ _ _ hb]; exact q) g0 g1 g3.1 g3.2.1 g3.2.2
    exact h _ _ p out _ T hna (fun b u hb q=>by rw [ao hb]; exact sm b u hb q) (JX ha2 fun _=>out) o1 o2 o3 o4
end
def ef (F:List Dv→Option (Rs Dv)):List Dv→Option (List (List Dv))
 | []=>some []
 | d :: r=>match F [d],ef F r with
  | some (.ok (.tup es)),some rs=>some (es :: rs)
  | _,_=>none
def gZ (rows:List (List Dv)) (ds:List Dv):List Dv:=(aF (fun a b=>!ltL b.1 a.1) (rows.zip ds)).map Prod.snd
def nI (F:List Dv→Option (Rs Dv)) (ds:List Dv):Option (Rs Dv):=match ef F ds with
 | some rows=>if cA rows=true∧imms ds=true∧imms (rows.map Dv.tup)=true then some (.ok (.lst (gZ rows ds))) else none
 | none=>none
theorem iR {F:List Dv→Option (Rs Dv)}:∀ {ds:List Dv} {rows:List (List Dv)},ef F ds=some rows→rows.length=ds.length∧∀ (i:Nat) (d:Dv),ds[i]?=some d→∃ es,rows[i]?=some es∧F [d]=some (.ok (.tup es))
 | [],rows,h=>by cases h; exact ⟨rfl,fun i d e=>by simp at e⟩
 | d :: ds,rows,h=>by
  unfold ef at h
  split at h
  · rename_i es rs h1 h2
    cases h
    obtain ⟨g1,g2⟩:=iR h2
    refine ⟨by simp [g1],fun i d' e=>?_⟩
    cases i with
    | zero=>simp at e; subst e; exact ⟨es,rfl,h1⟩
    | succ i=>exact g2 i d' (by simpa using e)
  · cases h
theorem qZ {rows:List (List Dv)} {ds:List Dv} (hl:rows.length=ds.length):(aF (fun i j=>!(fun i j=>ltL (bS rows i) (bS rows j)) j i) (h_ ds.length)).map (fun i=>ds.getD i .non)=gZ rows ds:=by
 have e:(h_ ds.length).map (fun i=>(bS rows i,ds.getD i .non))=rows.zip ds:=by
  apply List.ext_getElem
  · simp [hl]
  · intro i h1 h2
    simp only [Gw,KI] at h1
    have h1':i < rows.length:=by omega
    simp only [List.getElem_map,List.getElem_range,Ot]
    rw [d5 (n_ h1')]
    simp [Iw,h1]
 unfold gZ
 rw [← e,← sort_map (le:=fun i j=>!(fun i j=>ltL (bS rows i) (bS rows j)) j i) (fun i=>(bS rows i,ds.getD i .non)) _ fun x _ y _=>rfl,G7]
 rfl
section
variable {X:Cx} {pins:List (Addr×Obj)} {σ:L2.St} {H:Hp} {s:c_} {k:Nat} {f:Addr} {fd:Ha} {ps:List Str} {F:List Dv→Option (Rs Dv)} {A':u_} {E:Value→c_→Prop}
theorem q8 {h:Heap} {a:Addr} {o:Obj} (e:h.get? a=some o):bL [a] h=[(a,o)]:=by simp [bL,e]
theorem Be {a:Addr} {n:Nat} {vs:List Value} {ws:List V} {ds:List Dv} {rows:List (List Dv)} {P:Nm→c_→Prop}
 (G:FnOk X.prog X.w X.K X.mg X.base CX0 k f fd ps (spF X.K F ps.length)) (hr:Room k A') (hfr:A'.frames=X.A.frames) (hb:Binds X.K fd ps []) (h1:ps.length=1)
 (I:Inv X pins σ H s) (ho:s.heap.get? a=some (GM "list" vs.toArray n)) (hna:H a=none) (fpa:∀ H',H' a=none→oo X pins H' a) (rv:Vals ws vs) (rw':Reps X.K H ds ws) (im:imms ds=true)
 (hkey:∀ (i:Nat) (d:Dv),ds[i]?=some d→∃ es,rows[i]?=some es∧F [d]=some (.ok (.tup es))) (hlen:rows.length=ds.length) (hok:cA rows=true) (imk:imms (rows.map Dv.tup)=true)
 (h:∀ (s':c_) (H':Hp) (p:Nat→Nat) (out:Array Value) (c:Nat),Inv X pins σ H' s'→H' a=none→Same H H'→s'.heap.get? a=some (GM "list" out c)→out.size=vs.length→(∀ k,k < vs.length→out[k]?=vs[p k]?) →
   (h_ vs.length).map p=aF (fun i j=>!(fun i j=>ltL (bS rows i) (bS rows j)) j i) (h_ vs.length)→(∀ k,k < vs.length→p k < vs.length)→P (.done (.ret .none)) s') :
 m_ (pi X.prog X.w) A' (ksk_tree a (.ref f) false) P E s:=by
 have h64:vs.length < 64:=by
  simp only [cA,g_,decide_eq_true_eq] at hok
  have g1:=bI rw'; have g2:=rv.length
  omega
 have ha:a < s.heap.objs.size:=o_ ho
 obtain ⟨g0,g1,g2,g3⟩:=fpa _ hna
 unfold ksk_tree
 refine b_ (KB ho rfl ?_)
 refine b_ (Jk ho rfl ?_ (line64 (by simpa using h64)))
 obtain ⟨e1,ho1⟩:∃ e1,(s.heap.update a (GK fun _=>(#[]:Array Value))).get? a=some (GM "list" #[] e1):=⟨_,JX ho fun _=>#[]⟩
 have I1:=I.turned (t':=s.toks) (h':=s.heap.update a (GK fun _=>(#[]:Array Value))) (it:=a) (fun b o hb q=>by rw [Ho _ _ _ _ hb]; exact q) g0 g1 g3.1 g3.2.1 g3.2.2
 refine b_ (LU ho1 rfl ?_)
 refine b_ (MY ?_ (line64 (by simpa using h64)))
 refine b_ (LZ ?_)
 refine GV ?_
 have I2:=I1.kept (t':=s.toks) (h':=(s.heap.update a (GK fun _=>(#[]:Array Value))).push (GM "tuple" vs.toArray 0)) fun b u q=>f_ _ q
 have sz2:((s.heap.update a (GK fun _=>(#[]:Array Value))).push (GM "tuple" vs.toArray 0)).objs.size=s.heap.objs.size + 1:=by rw [KY,IR]
 have fr:H ((s.heap.update a (GK fun _=>(#[]:Array Value))).push (GM "tuple" vs.toArray 0)).objs.size=none:=I2.hok.fresh (l_ _)
 have I3:=I2.laid (t':=s.toks) (h':=((s.heap.update a (GK fun _=>(#[]:Array Value))).push (GM "tuple" vs.toArray 0)).push (GM "list" #[] 0)) (o:=.lst []) (fun b u q=>f_ _ q) (l_ _) ⟨GI _,[],0,.nil,r_ _ rfl⟩
 have ho3:(((s.heap.update a (GK fun _=>(#[]:Array Value))).push (GM "tuple" vs.toArray 0)).push (GM "list" #[] 0)).get? a=some (GM "list" #[] e1):=f_ _ (f_ _ ho1)
 have hne:((s.heap.update a (GK fun _=>(#[]:Array Value))).push (GM "tuple" vs.toArray 0)).objs.size≠a:=by rw [sz2]; exact Ln (HJ ha)
 have I4:=I3.pinned (fp:=[a]) (fun b hb=>by
  have:b=a:=by simpa using hb
  subst this
  exact fpa _ (by rw [ao hne.symm]; exact hna)) (fun b hb=>by
  have:b=a:=by simpa using hb
  subst this
  exact ⟨_,ho3,fun v z=>by cases z⟩)
 rw [q8 ho3] at I4
 refine Bd G hr hfr hb h1 I4 am hne rv (Reps.mono (au fr _) _ _ rw') im hkey hlen hok imk fpa fun s' H' p out c J ja sm e o1 o2 o3 o4=>h s' H' p out c J ja (fun b u q=>sm b u (fun z=>?_) ?_) e o1 o2 o3 o4
 · rw [z,fr] at q; cases q
 · rw [ao (fun z=>by rw [z,fr] at q; cases q)]; exact q
end
section
variable {X:Cx} {pins:List (Addr×Obj)} {σ:L2.St} {H:Hp} {s:c_} {k:Nat} {f:Addr} {fd:Ha} {ps:List Str} {F:List Dv→Option (Rs Dv)} {E:Value→c_→Prop}
theorem uB {l:Addr} {vs:List Value} {ws:List V} {ds:List Dv} {rows:List (List Dv)} {Q:VK}
 (G:FnOk X.prog X.w X.K X.mg X.base CX0 k f fd ps (spF X.K F ps.length)) (hr:Room (k + 2) X.A) (hb:Binds X.K fd ps []) (h1:ps.length=1)
 (I:Inv X pins σ H s) (hcol:∀ Q':List Value→c_→Prop,(∀ h' tk,(∀ b o,s.heap.get? b=some o→h'.get? b=some o)→s.heap.objs.size≤h'.objs.size→Q' vs { s with heap:=h',toks:=tk })→m_ (pi X.prog X.w) X.A.in1 (collect (.ref l)) Q' E s) (rv:Vals ws vs) (rw':Reps X.K H ds ws)
 (hkr:ef F ds=some rows) (hok:cA rows=true) (im:imms ds=true) (imk:imms (rows.map Dv.tup)=true)
 (q:∀ (L:Addr) (ws':List V) (H':Hp),Same H H'→H' L=some (.lst ws')→Reps X.K H' (gZ rows ds) ws'→Q (.ref L) H') :
 m_ (pi X.prog X.w) X.A (call (.builtin "sorted") [.ref l] [(a_ "key",.ref f)]) (EP X pins σ Q) E s:=by
 obtain ⟨hlen,hkey⟩:=iR hkr
 have hws:ds.length=ws.length:=bI rw'
 have hvs:ws.length=vs.length:=rv.length
 have h64:vs.length < 64:=by
  simp only [cA,g_,decide_eq_true_eq] at hok
  omega
 refine call_function_entry_kw kind_sorted plain_sorted entry_sorted (ksk_s1 _ _) ?_
 unfold K3.«sorted»
 refine b_ (m:=checkCount "sorted" 1 1 _) (d_ ?_)
 refine b_ (hcol _ fun h1' tk1 up gr=>?_)
 refine b_ (LZ ?_ (line64 h64))
 have I1:=I.kept (t':=tk1) (h':=h1'.push (GM "list" vs.toArray 0)) fun b u z=>f_ _ (up b u z)
 have hoL:(h1'.push (GM "list" vs.toArray 0)).get? h1'.objs.size=some (GM "list" vs.toArray 0):=r_ _ rfl
 have hfr:H h1'.objs.size=none:=I.hok.fresh (gr)
 have fpa:∀ H',H' h1'.objs.size=none→oo X pins H' h1'.objs.size:=fun H' hn=>I.fpOk (gr) hn
 refine b_ (GV (wpAny_call_entry_kw slot_list_sort ⟨_,hoL,rfl⟩ entry_list_sort ?body (ksk_l1 _ _)))
 case body =>
  show m_ (pi X.prog X.w) X.A.in1.in1 (K3.«list.sort» ⟨[.ref h1'.objs.size],[(a_ "key",.ref f)]⟩) _ _ _
  rw [ksk_t1]
  refine Be (s:={ s with heap:=h1'.push (GM "list" vs.toArray 0),toks:=tk1 }) G (hr.in1.in1) rfl hb h1 I1 hoL hfr fpa rv rw' im hkey hlen hok imk fun s' H' p out cc J ja sm e o1 o2 o3 o4=>⟨_,rfl,?_⟩
  refine d_ ⟨_,rfl,?_⟩
  obtain ⟨g0,g1,g2,g3,g4,g5⟩:=fpa _ ja
  have J2:=J.pinned (fp:=[h1'.objs.size]) (fun b hb'=>by
   have:b=h1'.objs.size:=by simpa using hb'
   subst this
   exact fpa _ ja) (fun b hb'=>by
   have:b=h1'.objs.size:=by simpa using hb'
   subst this
   exact ⟨_,e,fun v z=>by cases z⟩)
  rw [q8 e] at J2
  have hV:Vals ((h_ vs.length).map fun k=>ws.getD (p k) .non) out.toList:=by
   refine iQ (by simp [o1]) fun i v u ev eu=>?_
   have hi:i < vs.length:=by
    have:=(xy.mp eu).1
    simp [o1] at this
    omega
   have eu':out[i]?=some u:=by simpa using eu
   rw [o2 i hi] at eu'
   rw [E_,HM hi] at ev
   simp only [HN,IA] at ev
   have hp:p i < ws.length:=by rw [hvs]; exact o4 i hi
   have e1:ws[p i]?=some v:=by rw [n_ hp,← ev]; simp [Iw,hp]
   obtain ⟨u',e2,r2⟩:=rv.get e1
   rw [e2] at eu'
   cases eu'
   exact r2
  have hR:Reps X.K H' (gZ rows ds) ((h_ vs.length).map fun k=>ws.getD (p k) .non):=by
   have hn:vs.length=ds.length:=by omega
   rw [← qZ hlen,← hn,← o3,G7]
   refine iP (by simp) fun i d v ed ev=>?_
   have hi:i < vs.length:=by
    have:=(xy.mp ed).1
    simpa using this
   rw [E_,HM hi] at ed ev
   simp only [HN,IA,JV] at ed ev
   have hp:p i < ws.length:=by rw [hvs]; exact o4 i hi
   have hp':p i < ds.length:=by omega
   refine reps_at (Reps.mono sm _ _ rw') (p i) d v ?_ ?_
   · rw [n_ hp',← ed]; simp [Iw,hp']
   · rw [n_ hp,← ev]; simp [Iw,hp]
  have e':(h1'.objs.size,GM "list" out cc)=(h1'.objs.size,xl out.toList cc):=by simp [GM,xl]
  rw [e'] at J2
  obtain ⟨ha',J3⟩:=Inv.retrack J2 hV (line64 (by simp; omega)) (fun o' z=>by
   exfalso
   rcases g3 with g3 | g3
   · exact absurd (I.ok) (fun _=>by
      have:=K6 (h:=X.s₀.heap) (a:=h1'.objs.size) (GG I.sz (gr))
      rw [this] at z
      cases z)
   · have:=K6 (h:=X.s₀.heap) (a:=h1'.objs.size) g3
     rw [this] at z
     cases z) g5
  refine ⟨.ref h1'.objs.size,_,J3,rfl,q _ _ _ (fun b u z=>?_) am (Reps.mono (au ja _) _ _ hR)⟩
  exact au ja _ b u (sm b u z)
end
section
variable {X:Cx} {k' n:Nat} {ps:List Str} {x:Str} {p p2 kp pos:Pos} {e:Expr} {F:List Dv→Option (Rs Dv)} {g:FnA}
end
end FD
namespace FD
open PySem PySem.Spec PyProof.Rows L2
section
variable {X:Cx} {p pos:Pos} {e:Expr} {es:List Expr} {ga:FnA}
end
end FD
namespace TS
open PySem PySem.Spec PyProof.Rows L2 FD
def okF (ks:List Nat):Bool:=ks.all fun k=>k != 0 && decide (k < 4)
end TS
namespace FD
open PySem PySem.Spec PyProof.Rows L2 TS
section
variable {X:Cx}
end
end FD
namespace FD
open PySem PySem.Spec PyProof.Rows L2
def ak (X:Cx) (N:List Str) (scope:Scope) (C:Addr) (s:c_) (H:Hp) (fp:List Addr):Cx :=
 { X with N:=N,s₀:=s,H₀:=H,env:=NY scope (GO (C + 1) scope.names (fX scope.names X.env [])) C X.env,outer:=X.stack,stack:=X.stack,ex:=fp,fn:=fun y=>scope.names.lookup y == some .cell,pn:=[],xe:=fun _ _=>False }
structure g8 (osc scope:Scope) (cs:List (Str×Nat)) (N:List Str):Prop where
 kind:scope.kind=.function
 one:∀ y∈scope.names,y.2=.cell→scope.names.lookup y.1=some .cell
 names:∀ y∈scope.names,y.2=.local→scope.names.lookup y.1=some .local
 free:∀ y∈scope.names,y.2=.free→osc.names.lookup y.1=some .cell∨osc.names.lookup y.1=some .free
 caps:∀ c∈cs,N[c.2]?=some c.1∧scope.names.lookup c.1=some .free
theorem eV:∀ (names:List (Str×IQ)) (lo:Nat) (acc:List (Str×Addr)),GO lo names acc=GO lo names [] ++ acc
 | [],_,_=>rfl
 | (n,k) :: r,lo,acc=>by
  unfold GO
  split
  · rw [eV r (lo + 1) ((n,lo) :: acc),eV r (lo + 1) [(n,lo)],LX]; rfl
  · exact eV r lo acc
theorem q9:∀ {names:List (Str×IQ)} {lo:Nat} {n:Str} {c:Addr},(n,c)∈GO lo names []→(n,HY)∈names
 | [],_,_,_,h=>(nomatch h)
 | (m,k) :: r,lo,n,c,h=>by
  unfold GO at h
  split at h
  · rename_i hk
    rw [eV] at h
    rcases F_.mp h with q | q
    · exact k_ _ (q9 q)
    · have e:n=m:=by simp at q; exact q.1
      have ek:k=.cell:=by simpa using hk
      subst e ek
      exact j_
  · exact k_ _ (q9 h)
theorem nJ:∀ {names:List (Str×IQ)} {lo:Nat} {n:Str},(n,HY)∈names→((GO lo names []).lookup n).isSome=true
 | [],_,_,h=>(nomatch h)
 | (m,k) :: r,lo,n,h=>by
  unfold GO
  rcases p_.mp h with e | q
  · cases e
    rw [if_pos (by decide),eV,Je]
    cases hl:(GO (lo + 1) r []).lookup m with
    | some _=>rfl
    | none=>simp
  · split
    · rw [eV,Je]
      have:=nJ (lo:=lo + 1) q
      cases hl:(GO (lo + 1) r []).lookup n with
      | some _=>rfl
      | none=>rw [hl] at this; cases this
    · exact nJ q
theorem xU {M:Md} {A:u_} {E:Value→c_→Prop} {s:c_} {scope:Scope} {globals:Addr} {cl:List (Str×Addr)} {qual:Str} {env:Env} {Q:Env→c_→Prop} (hk:scope.kind=.function)
 (hQ:Q (newEnv scope s.heap.objs.size globals (GO (s.heap.objs.size + 1) scope.names cl) qual none .none (some env) NF) { s with heap:=pushCells (s.heap.push { cls:=.type "dict",data:=.dict #[] }) scope.names }) :
 m_ M A (MZ scope globals cl [] qual none .none (some env)) Q E s:=by
 simp only [MZ,NO,if_true]
 refine b_ (wpAny_alloc ?_)
 refine b_ (wpAny_layCells _ (fun name kind cells=>by cases hkc:kind == HY <;> simp [hkc]) _ _ _ _ ?_)
 rw [show ({ s with heap:=s.heap.push { cls:=.type "dict",data:=.dict #[] } }:c_).heap.objs.size=s.heap.objs.size + 1 from Hd ..]
 refine b_ ?_
 rw [Nh]
 exact d_ (d_ hQ)
theorem rf {X:Cx} {pins:List (Addr×Obj)} {σ:L2.St} {H:Hp} {s:c_} {scope:Scope} {ns:List Str} {cs:List (Str×Nat)} {fp:List Addr} {h₁:Heap} {C:Addr} {t':Nat} (ok:g8 X.env.scope scope cs X.N) (I:Inv X pins σ H s) (hfp:∀ b∈fp,oo X pins H b) (hlt:∀ b∈fp,b < s.heap.objs.size)
 (hC:s.heap.objs.size≤C) (hns:h₁.Ns C fun _=>none) (old:∀ b o,s.heap.get? b=some o→h₁.get? b=some o) (hck:CellsOk h₁ (C + 1) (GO (C + 1) scope.names [])) :
 Inv (ak X (ns ++ cs.map (·.1)) scope C s H fp) [] (ka ns.length cs σ) H { s with heap:=h₁,toks:=t' }:=by
 have cl1:∀ n c,(fX scope.names X.env []).lookup n=some c→X.env.cells.lookup n=some c:=fun n c e=>by
  rcases iy _ _ e with q | ⟨q1,q2⟩
  · simp at q
  · obtain ⟨c',e'⟩:=I.ok.has n (ok.free _ q1 rfl)
    rw [e'] at q2
    rw [e',q2] <;> rfl
 have lk:∀ n c,(ak X (ns ++ cs.map (·.1)) scope C s H fp).env.cells.lookup n=some c→(n,c)∈GO (C + 1) scope.names []∨((n,HY) ∉ scope.names∧(fX scope.names X.env []).lookup n=some c):=fun n c e=>by
  have e':(GO (C + 1) scope.names (fX scope.names X.env [])).lookup n=some c:=e
  rw [eV,Je] at e'
  cases hl:(GO (C + 1) scope.names []).lookup n with
  | some c'=>rw [hl] at e'; cases e'; exact .inl (mem_of_lookup hl)
  | none =>
   rw [hl] at e'
   refine .inr ⟨fun hm=>?_,e'⟩
   have:=nJ (lo:=C + 1) hm
   rw [hl] at this
   cases this
 have lk2:∀ n c,(n,HY) ∉ scope.names→(fX scope.names X.env []).lookup n=some c→(ak X (ns ++ cs.map (·.1)) scope C s H fp).env.cells.lookup n=some c:=fun n c hm e=>by
  show (GO (C + 1) scope.names (fX scope.names X.env [])).lookup n=some c
  rw [eV,Je]
  cases hl:(GO (C + 1) scope.names []).lookup n with
  | some c'=>exact absurd (q9 (mem_of_lookup hl)) hm
  | none=>exact e
 have big:∀ n c,(n,c)∈GO (C + 1) scope.names []→s.heap.objs.size < c:=fun n c hm=>A_ (Nat.lt_succ_of_le hC) (hck.empty n c hm).2
 have low:∀ n c,(fX scope.names X.env []).lookup n=some c→c < s.heap.objs.size:=fun n c e=>by
  obtain ⟨v,o,ho,_⟩:=I.cell n c (cl1 n c e)
  exact o_ ho
 have inj:∀ y z c,(ak X (ns ++ cs.map (·.1)) scope C s H fp).env.cells.lookup y=some c→(ak X (ns ++ cs.map (·.1)) scope C s H fp).env.cells.lookup z=some c→y=z:=fun y z c e1 e2=>by
  rcases lk y c e1 with p | ⟨_,p⟩ <;> rcases lk z c e2 with q | ⟨_,q⟩
  · exact name_of_addr hck.apart p q
  · exact absurd (Lo (big y c p) (low z c q)) (Hj _)
  · exact absurd (Lo (big z c q) (low y c p)) (Hj _)
  · exact I.ok.inj y z c (cl1 y c p) (cl1 z c q)
 refine ⟨⟨I.ok.mod,ok.kind,I.ok.glob,I.ok.blt,hC,inj,fun y hy=>?_,fun y c hfn e=>?_,I.ok.hd,I.ok.frames,.inl rfl,fun b hb=>⟨fun z=>?_,fun y c e=>?_⟩,I.bs,GG I.ok.bsz I.sz,fun b o e hb=>?_,fun b hb z=>?_,I.stack,I.stkFree⟩,
  rfl,I.bare,Un.kept old,⟨_,hns,fun i y v h1 h2 h3=>?_⟩,fun y c e=>?_,I.hok.fresh hC,fun y c e=>?_,fun p hp=>absurd (show p∈([]:List (Addr×Obj)) from hp) (by simp),I.hok.kept old,by simp [ka,ak]⟩
 · have hm:(y,HY)∈scope.names∨(y,HG)∈scope.names:=by
    rcases hy with hy | hy
    · rcases fN hy with q | ⟨_,q⟩
      · exact .inl q
      · exact .inr q
    · rcases fN hy with q | ⟨q,_⟩
      · exact .inr q
      · cases q
   by_cases hcl:(y,HY)∈scope.names
   · obtain ⟨c,hc'⟩:=II.mp (nJ (lo:=C + 1) hcl)
     refine ⟨c,?_⟩
     show (GO (C + 1) scope.names (fX scope.names X.env [])).lookup y=some c
     rw [eV,Je,hc']
     rfl
   · obtain ⟨c,hc'⟩:=II.mp (jg (env:=X.env) scope.names [] (hm.resolve_left hcl))
     exact ⟨c,lk2 y c hcl hc'⟩
 · have hfn':scope.names.lookup y=some .cell:=by simpa [ak] using hfn
   rcases lk y c e with p | ⟨p,_⟩
   · exact KG (big y c p)
   · exact absurd (cG hfn') p
 · have:=hlt b hb
   rw [z] at this
   exact absurd (A_ this hC) (Hj _)
 · rcases lk y c e with p | ⟨_,p⟩
   · exact fun z=>absurd (Lo (big y c p) (z ▸ hlt b hb)) (Hj _)
   · exact (hfp b hb).2.2.2.2.1 y c (cl1 y c p)
 · rcases (hfp b hb).2.2.2.1 with z | z
   · exact I.ok.noex b o e z
   · exact absurd (A_ (o_ e) (GG I.ok.bsz z)) (Hj _)
 · rcases p_.mp (I.stkSub b z) with q | q
   · exact (hfp b hb).2.1 q
   · exact (hfp b hb).2.2.1 q
 · obtain ⟨k,rfl,h4⟩:=kc h2
   have h1':(ns ++ cs.map (·.1))[ns.length + k]?=some y:=h1
   rw [Hh (by simp)] at h1'
   simp only [Mq] at h1'
   rw [E_] at h1'
   cases hc:cs[k]? with
   | none=>rw [hc] at h1'; simp at h1'
   | some c =>
    rw [hc] at h1'
    have ey:c.1=y:=by simpa using h1'
    subst ey
    rw [E_,hc] at h4
    simp only [HN,IA] at h4
    have h2':σ[c.2]?=some (some v):=by
     cases q:σ[c.2]? with
     | none=>rw [q] at h4; simp at h4
     | some o=>rw [q] at h4; simp at h4; rw [h4]
    obtain ⟨hN,hf⟩:=ok.caps c (G6 hc)
    have hv:=ok.free _ (cG hf) rfl
    obtain ⟨mm,_,hl⟩:=I.loc
    obtain ⟨u,r,l⟩:=hl c.2 c.1 v hN h2' (.inr hv)
    refine ⟨u,r,.inr ⟨fP hf,?_⟩⟩
    rcases l with ⟨l,_⟩ | ⟨_,a,ha,o,ho,hd⟩
    · have l':X.env.scope.names.lookup c.1=some .local:=l
      rcases hv with z | z
      · rw [l'] at z; cases z
      · rw [l'] at z; cases z
    · obtain ⟨a',ha'⟩:=II.mp (jg (env:=X.env) scope.names [] (cG hf))
      have e2:=cl1 _ _ ha'
      rw [ha] at e2
      cases e2
      exact ⟨a,lk2 _ _ (fun hm=>by have z:=ok.one _ hm rfl; rw [hf] at z; cases z) ha',o,old _ _ ho,hd⟩
 · rcases lk y c e with p | ⟨_,p⟩
   · exact ⟨none,(hck.empty y c p).1⟩
   · obtain ⟨v,o,ho,hd⟩:=I.cell y c (cl1 y c p)
     exact ⟨v,o,old _ _ ho,hd⟩
 · rcases lk y c e with p | ⟨_,p⟩
   · exact I.hok.fresh (KG (big y c p))
   · exact I.freeC y c (cl1 y c p)
def Bf (X:Cx) (ns:List Str) (cs:List (Str×Nat)) (scope:Scope) (D:Addr) (s2:c_) (H2:Hp) (fp:List Addr) (tn:Nat→Heap→Prop) (ds ys:List Dv) (b:Dv→Ev→Option Ev) (tst:Option FnB) (fe:FnE) (ρ:Ev) (m:Nat) (s':c_):Prop :=
 ∃ i σ' H' es vs its,m=ds.length - i∧i≤ds.length∧Inv (ak X (ns ++ cs.map (·.1)) scope (D + 1) s2 H2 fp) [] σ' H' s'∧Envs X.K H' σ' (dS ns.length cs ρ)∧tn i s'.heap∧(∀ b∈fp,H' b=none)∧H' D=none∧LAt s'.heap D its∧Vals vs its∧Reps X.K H' es vs∧es.length≤i∧Same H2 H' ∧
  (match iB b tst fe (dS ns.length cs ρ) (ds.drop i) with | some zs=>es ++ zs=ys | none=>False)
theorem iS {X:Cx} {pins:List (Addr×Obj)} {σ:L2.St} {tg elt iter:Expr} {ifs:List Expr} {scope:Scope} {pos:Pos} {ns:List Str} {tst:Option FnB} {fe:FnE} {b:Dv→Ev→Option Ev} {js:List Nat} (cs:List (Str×Nat)) (ok:g8 X.env.scope scope cs X.N) (hc:X.calm=true)
 (htg:∀ C s H fp,FG (ak X (ns ++ cs.map (·.1)) scope C s H fp) tg b) (helt:∀ C s H fp,FE (ak X (ns ++ cs.map (·.1)) scope C s H fp) elt fe) (hifs:∀ C s H fp,pX (ak X (ns ++ cs.map (·.1)) scope C s H fp) ifs tst)
 (hback:∀ ρ d ρ',b d (dS ns.length cs ρ)=some ρ'→fgt js ρ'=dS ns.length cs ρ)
 {ρ:Ev} {s2:c_} {it:Addr} {fp:List Addr} {tn:Nat→Heap→Prop} {J:It} {H2:Hp} (E:Envs X.K H2 σ ρ) (I2:Inv X pins σ H2 s2) (T:vi X.prog X.w X.K tg J fp it tn) (st2:tn 0 s2.heap) (f2:∀ b∈fp,oo X pins H2 b) {ds ys:List Dv} (wk:WkG X.K J ds H2) (hdl:ds.length≤100000) (hyl:ys.length≤100000) (hm:iB b tst fe (dS ns.length cs ρ) ds=some ys)
 {RR:Value→Addr→NK→c_→Prop}
 (hRR:∀ (D C:Addr) (s6:c_) (H5:Hp) (vs:List V) (m6:Str→Option Value),Inv X pins σ (upd H5 D (.lst vs)) s6→H5 D=none→Same H2 H5→Reps X.K H5 ys vs→s6.heap.Ns C m6→H5 C=none→C≠D→s2.heap.objs.size≤C→RR (.ref D) C (.ok .next) s6) :
 m_ (pi X.prog X.w) X.A (newList []) (fun acc s₃=>m_ (pi X.prog X.w) X.A (MZ scope X.env.globals (fX scope.names X.env []) [] X.env.qual none .none (some X.env)) (fun cenv s₄ =>
  Kq (pi X.prog X.w) X.A (.compStart (.ListComp elt [⟨tg,iter,ifs,0⟩] scope pos) 0 (.ref it) acc { cenv with scope:=relabel scope X.env }) (RR acc cenv.locals) s₄) X.xe s₃) X.xe s2:=by
 have fplt:∀ b∈fp,b < s2.heap.objs.size:=fun b hb=>by
  obtain ⟨o,ho,_⟩:=T.obj _ _ st2 b hb
  exact o_ ho
 refine G5 (xU ok.kind ?_)
 dsimp only
 generalize hH2:s2.heap.push { cls:=.type "list",dict:=none,data:=.seq ([]:List Value).toArray }=P2
 obtain ⟨D,hD⟩:∃ D,s2.heap.objs.size=D:=⟨_,rfl⟩
 have hC:P2.objs.size=D + 1:=by rw [← hH2,Hd,hD]
 rw [hC,hD]
 obtain ⟨h₁,hh₁⟩:∃ h,h=pushCells (P2.push { cls:=.type "dict",data:=.dict #[] }) scope.names:=⟨_,rfl⟩
 rw [← hh₁]
 have kp:∀ b o,P2.get? b=some o→h₁.get? b=some o:=fun b o e=>by rw [hh₁]; exact pushCells_keeps _ _ b o (f_ _ e)
 have old:∀ b o,s2.heap.get? b=some o→h₁.get? b=some o:=fun b o e=>kp b o (hH2 ▸ f_ _ e)
 have hacc:LAt h₁ D []:=⟨0,kp _ _ (by rw [← hH2,← hD]; exact r_ _ rfl)⟩
 have hns:h₁.Ns (D + 1) fun _=>none:=by
  rw [hh₁,← hC]
  exact (Heap.Ns.new P2 (.type "dict")).keeps (pushCells_keeps _ _)
 have hck:CellsOk h₁ (D + 1 + 1) (GO (D + 1 + 1) scope.names []):=by
  have q:=cellsFrom_ok scope.names (P2.push { cls:=.type "dict",data:=.dict #[] }) (D + 1 + 1) [] ⟨fun _ _ hm=>(nomatch hm),Jt⟩ (by rw [Hd,hC]; exact l_ _)
  rw [Hd,hC,← hh₁] at q
  exact q
 have I4:Inv (ak X (ns ++ cs.map (·.1)) scope (D + 1) s2 H2 fp) [] (ka ns.length cs σ) H2 { s2 with heap:=h₁ }:=rf (t':=s2.toks) ok I2 f2 fplt (by rw [hD]; exact IW D) hns old hck
 have E4:Envs X.K H2 (ka ns.length cs σ) (dS ns.length cs ρ):=p9 ns.length cs E
 have HD:H2 D=none:=I2.hok.fresh (JG hD)
 have fpD:∀ b∈fp,b≠D:=fun b hb=>wM (hD ▸ fplt b hb)
 have loop:∀ s4:c_,s4={ s2 with heap:=h₁ } →
  Kq (pi X.prog X.w) X.A (.compLoop (.ListComp elt [⟨tg,iter,ifs,0⟩] scope pos) 0 (.ref it) (.ref D) (NY scope (GO (D + 1 + 1) scope.names (fX scope.names X.env [])) (D + 1) X.env)) (RR (.ref D) (D + 1)) s4:=by
  rintro s4 rfl
  refine kf (fun k s'=>Bf X ns cs scope D s2 H2 fp tn ds ys b tst fe ρ k s') ?_ ds.length ⟨0,ka ns.length cs σ,H2,[],[],[],by simp,GI _,I4,E4,T.keep _ _ _ st2 fun b hb o e=>old b o e,fun b hb=>(f2 b hb).1,HD,hacc,.nil,rfl,l_ _,.refl H2,by rw [List.drop_zero,hm]; rfl⟩
  rintro k0 s5 ⟨i,σ5,H5,es,vs,its,rfl,hi5,I5,E5,t5,fr5,D5,l5,v5,r5,hel,e5,hz⟩
  have nC:∀ b∈fp,b≠D + 1:=fun b hb=>zW (hD ▸ fplt b hb)
  have DL:D≠(ak X (ns ++ cs.map (·.1)) scope (D + 1) s2 H2 fp).env.locals:=Fc
  have Dcell:∀ y c,(ak X (ns ++ cs.map (·.1)) scope (D + 1) s2 H2 fp).env.cells.lookup y=some c→c≠D:=fun y c e z=>by
   obtain ⟨v,o,ho,hd⟩:=I5.cell y c e
   obtain ⟨n,q⟩:=l5
   subst z
   rw [q] at ho
   cases ho
   cases hd
  have Dfs:D ∉ (ak X (ns ++ cs.map (·.1)) scope (D + 1) s2 H2 fp).fs:=fun z=>by
   rcases p_.mp (I2.stkSub D z) with q | q
   · have z2:=I2.lt
     rw [hD] at z2
     exact wM z2 q.symm
   · exact I2.nofs (JG hD) q
  have Dp:oo (ak X (ns ++ cs.map (·.1)) scope (D + 1) s2 H2 fp) [] H5 D:=⟨D5,DL,Dfs,.inr (JG hD),Dcell,fun p hp=>absurd (show p∈([]:List (Addr×Obj)) from hp) (by simp)⟩
  have Dob:∀ b∈[D],∃ o,s5.heap.get? b=some o∧∀ v,o.data≠.cell v:=fun b hb=>by
   have e:b=D:=by simpa using hb
   subst e
   obtain ⟨n,q⟩:=l5
   exact ⟨_,q,fun v z=>by cases z⟩
  have I5p:Inv (ak X (ns ++ cs.map (·.1)) scope (D + 1) s2 H2 fp) (bL [D] s5.heap) σ5 H5 s5:=by
   have q:=I5.pinned (fp:=[D]) (fun b hb=>by
    have e:b=D:=by simpa using hb
    subst e; exact Dp) Dob
   rw [Lh] at q
   exact q
  have ner:∀ b∈fp,∀ p∈bL [D] s5.heap,p.1≠b:=fun b hb p hp z=>by
   have e:p.1=D:=by simpa using (gp hp).1
   exact fpD b hb (z.symm.trans e)
  have fp5':∀ b∈fp,oo (ak X (ns ++ cs.map (·.1)) scope (D + 1) s2 H2 fp) (bL [D] s5.heap) H5 b:=fun b hb=>⟨fr5 b hb,nC b hb,I4.ok.exfs b hb,.inl hb,(I4.ok.exf b hb).2,fun p hp=>ner b hb p (by simpa [ak] using hp)⟩
  have lenR:vs.length=es.length:=r5.length
  have lenV:vs.length=its.length:=v5.length
  by_cases hlt:i < ds.length
  · refine thn (T.item (ak X (ns ++ cs.map (·.1)) scope (D + 1) s2 H2 fp) rfl rfl rfl hc i (bL [D] s5.heap) s5 σ5 H5 _ I5p fp5' t5 (wk.go i H5 e5 hlt)) fun r s6 ⟨u,hr,h6⟩=>?_
    subst hr
    refine thn h6 fun _ s7 ⟨xv,H7,I7,r7,y7,t7,fr7⟩=>?_
    obtain ⟨e57,d,hd,rd⟩:=wk.yld i H5 xv H7 e5 hlt y7
    rw [dc hd] at hz
    have I7p:=I7.pinned (fp:=fp) (fun b hb=>⟨fr7 b hb,nC b hb,I4.ok.exfs b hb,.inl hb,(I4.ok.exf b hb).2,fun p hp=>ner b hb p (by simpa [ak] using hp)⟩) (T.obj _ _ t7)
    have fin:∀ {σ8:L2.St} {H8:Hp} {s8:c_},Inv (ak X (ns ++ cs.map (·.1)) scope (D + 1) s2 H2 fp) (bL [D] s5.heap ++ bL fp s7.heap) σ8 H8 s8→tn (i + 1) s8.heap∧(∀ b∈fp,H8 b=none)∧H8 D=none∧LAt s8.heap D its:=fun {σ8 H8 s8} I8=>by
     refine ⟨T.keep _ _ _ t7 fun b hb o e=>(I8.pin (b,o) (s_ _ (s_ _ (bA hb e)))).1,fun b hb=>?_,?_,?_⟩
     · obtain ⟨o,e,_⟩:=T.obj _ _ t7 b hb
       exact (I8.pin (b,o) (s_ _ (s_ _ (bA hb e)))).2.1
     · obtain ⟨n,q⟩:=l5
       exact (I8.pin (D,_) (s_ _ (Gp _ (bA (by simp) q)))).2.1
     · obtain ⟨n,q⟩:=l5
       exact ⟨n,(I8.pin (D,_) (s_ _ (Gp _ (bA (by simp) q)))).1⟩
    unfold iB at hz
    match hb:b d (dS ns.length cs ρ) with
    | none=>rw [hb] at hz; exact hz.elim
    | some ρd =>
     rw [hb] at hz
     dsimp only at hz
     refine GC ((htg (D + 1) s2 H2 fp).h _ s7 σ5 H7 xv u d (dS ns.length cs ρ) ρd I7p r7 rd (E5.mono e57) hb) (fun _ s8 ⟨σ8,H8,I8,e78,E8⟩=>?_) fun _ _ z=>Gz z
     have e58:=e57.trans e78
     have back:∀ {σ9:L2.St} {H9:Hp},Envs X.K H9 σ9 ρd→Envs X.K H9 σ9 (dS ns.length cs ρ):=fun {σ9 H9} E9=>by
      have q:=Envs.fgt js E9
      rw [hback ρ d ρd hb] at q
      exact q
     have took:∀ {H9:Hp} {s9:c_},Inv (ak X (ns ++ cs.map (·.1)) scope (D + 1) s2 H2 fp) (bL [D] s5.heap ++ bL fp s7.heap) σ8 H9 s9→Same H8 H9 →
      (match (match fe ρd with | some (.ok y)=>(match iB b tst fe (dS ns.length cs ρ) (ds.drop (i + 1)) with | some ys=>some (y :: ys) | none=>none) | _=>none) with | some zs=>es ++ zs=ys | none=>False) →
      m_ (pi X.prog X.w) X.A (eval elt (NY scope (GO (D + 1 + 1) scope.names (fX scope.names X.env [])) (D + 1) X.env)) (fun xw s₄ =>
       m_ (pi X.prog X.w) X.A (call (.builtin "list.append") [.ref D,xw]) (fun _ s₅=>∃ k,k < ds.length - i∧Bf X ns cs scope D s2 H2 fp tn ds ys b tst fe ρ k s₅) (Mz (pi X.prog X.w) X.A (NY scope (GO (D + 1 + 1) scope.names (fX scope.names X.env [])) (D + 1) X.env) fun e s'=>RR (.ref D) (D + 1) (.error e) s') s₄) (Mz (pi X.prog X.w) X.A (NY scope (GO (D + 1 + 1) scope.names (fX scope.names X.env [])) (D + 1) X.env) fun e s'=>RR (.ref D) (D + 1) (.error e) s') s9:=fun {H9 s9} I9 e9 hz9=>by
      match hfe:fe ρd,hz9 with
      | none,hz9=>exact hz9.elim
      | some (.exc c),hz9=>exact hz9.elim
      | some (.ok y),hz9 =>
       refine GC ((helt (D + 1) s2 H2 fp).h _ s9 σ8 H9 (fun v H10=>Same H9 H10∧Rep X.K H10 y v) I9 ⟨ρd,E8.mono e9,by rw [hfe]; exact fun v H10 e10 r10=>⟨e10,r10⟩⟩) (fun w s10 ⟨yv,H10,I10,rw10,e10,r10⟩=>?_) fun _ _ z=>Gz z
       obtain ⟨t10,fr10,D10,l10⟩:=fin I10
       refine oy l10 (by omega) fun h11 l11 k11=>?_
       have I10':Inv (ak X (ns ++ cs.map (·.1)) scope (D + 1) s2 H2 fp) (bL fp s7.heap) σ8 H10 s10:=I10.pins_of fun p hp=>I10.pin p (s_ _ (s_ _ hp))
       have I11:Inv (ak X (ns ++ cs.map (·.1)) scope (D + 1) s2 H2 fp) (bL fp s7.heap) σ8 H10 { s10 with heap:=h11 }:=I10'.turned (t':=s10.toks) k11 D10 DL (.inr (JG hD)) Dcell fun p hp z=>by
        have hp':p∈bL fp s7.heap:=by simpa [ak] using hp
        exact fpD p.1 (gp hp').1 z
       have e80:=e9.trans e10
       refine ⟨ds.length - (i + 1),by omega,i + 1,σ8,H10,es ++ [y],vs ++ [yv],its ++ [w],rfl,hlt,I11.pins_of fun p hp=>absurd hp (by simp),back (E8.mono e80),T.keep _ _ _ t10 fun b hb o e=>k11 b o (fpD b hb) e,fr10,D10,l11,v5.append (.cons rw10 .nil),(Reps.mono (e58.trans e80) _ _ r5).append ⟨yv,[],rfl,r10,rfl⟩,by rw [G8,MX]; omega,e5.trans (e58.trans e80),?_⟩
       match hm2:iB b tst fe (dS ns.length cs ρ) (ds.drop (i + 1)),hz9 with
       | none,hz9=>exact hz9.elim
       | some zs,hz9=>dsimp only at hz9 ⊢; rw [LX]; exact hz9
     have hif:=hifs (D + 1) s2 H2 fp
     cases tst with
     | none =>
      cases (show ifs=[] from hif)
      exact wpAny_tests_nil (by rw [if_pos rfl]; exact took I8 (.refl H8) hz)
     | some t =>
      obtain ⟨c,rfl,hct⟩:=hif
      match htt:t ρd,hz with
      | none,hz=>simp only [htt] at hz
      | some (.exc c),hz=>simp only [htt] at hz
      | some (.ok true),hz =>
       simp only [htt] at hz
       refine wpAny_tests_one (GC (hct.h _ s8 σ8 H8 (fun b H9=>b=true∧Same H8 H9) I8 ⟨_,E8,by rw [htt]; exact fun H9 e9=>⟨rfl,e9⟩⟩) (fun b s9 ⟨H9,I9,hb,e9⟩=>?_) fun _ _ z=>Gz z)
       subst hb
       rw [if_pos rfl]
       exact took I9 e9 hz
      | some (.ok false),hz =>
       simp only [htt] at hz
       refine wpAny_tests_one (GC (hct.h _ s8 σ8 H8 (fun b H9=>b=false∧Same H8 H9) I8 ⟨_,E8,by rw [htt]; exact fun H9 e9=>⟨rfl,e9⟩⟩) (fun b s9 ⟨H9,I9,hb,e9⟩=>?_) fun _ _ z=>Gz z)
       subst hb
       rw [if_neg on]
       obtain ⟨t9,fr9,D9,l9⟩:=fin I9
       exact ⟨ds.length - (i + 1),by omega,i + 1,σ8,H9,es,vs,its,rfl,hlt,I9.pins_of fun p hp=>absurd hp (by simp),back (E8.mono e9),t9,fr9,D9,l9,v5,Reps.mono (e58.trans e9) _ _ r5,by omega,e5.trans (e58.trans e9),hz⟩
  · have hi':i=ds.length:=by omega
    subst hi'
    rw [JK] at hz
    have hz':es ++ []=ys:=hz
    rw [Jh] at hz'
    subst hz'
    refine thn (T.done (ak X (ns ++ cs.map (·.1)) scope (D + 1) s2 H2 fp) rfl rfl rfl hc ds.length (bL [D] s5.heap) s5 σ5 H5 _ I5p fp5' t5 (wk.stop H5 e5)) fun r s6 ⟨hr,I6⟩=>?_
    subst hr
    have l6:LAt s6.heap D its:=by
     obtain ⟨n,q⟩:=l5
     exact ⟨n,(I6.pin (D,_) (s_ _ (bA (by simp) q))).1⟩
    obtain ⟨m6,n6,_⟩:=I6.loc
    have C6:H5 (D + 1)=none:=I6.free
    have new:ObjOk X.prog X.w (upd H5 D (.lst vs)) s6.heap D (.lst vs):=by
     obtain ⟨n,q⟩:=l6
     exact ⟨by rw [lenR]; exact bg hyl,its,n,v5,q⟩
    have u6:Un (L2.frs X.stack) fp H2 H5 s2.heap s6.heap:=I6.base
    have nD:∀ b o,s2.heap.get? b=some o→b≠D:=fun b o e=>by
     have hb:b < D:=by rw [← hD]; exact o_ e
     exact wM hb
    have u7:Un (L2.frs X.stack) fp H2 (upd H5 D (.lst vs)) s2.heap s6.heap:=⟨u6.keep,u6.slot,fun b o e n hx=>by rw [ao (nD b o e)]; exact u6.free b o e n hx,u6.there,fun b xs q=>by
     have q':=u6.tups b xs q
     rw [ao (ar q' D5)]; exact q',fun b o u q=>by
     have q':=u6.frzs b o u q
     rw [ao (ar q' D5)]; exact q',fun b ps q=>by
     obtain ⟨more,q'⟩:=u6.tbls b ps q
     exact ⟨more,by rw [ao (ar q' D5)]; exact q'⟩⟩
    have I7:Inv X pins σ (upd H5 D (.lst vs)) s6:=I2.call' (s':=s6) (ch:=fp) I6.os u7 (HOk.add I6.hok D5 C6 (fun b u _ q=>q) new) I6.bare fun b hb=>⟨(f2 b hb).2.2.2.1,(f2 b hb).2.1,(f2 b hb).2.2.2.2.1,(f2 b hb).2.2.2.2.2⟩
    exact hRR D (D + 1) s6 H5 vs m6 I7 D5 e5 r5 n6 C6 (Im Fc) (by rw [hD]; exact IW D)
 exact codeAny_compStart_list (loop _ rfl) (T.self _ 0 _ _ _ (T.keep _ _ _ st2 fun b hb o e=>old b o e) (loop _ rfl))
theorem nK {X:Cx} {tg elt iter:Expr} {ifs:List Expr} {scope:Scope} {pos:Pos} {src:FnA} {tst:Option FnB} {fe:FnE} {b:Dv→Ev→Option Ev} (osc:Scope) (N ns:List Str) (js:List Nat) (cs:List (Str×Nat)) (hosc:X.env.scope=osc) (hN:X.N=N) (ok:g8 osc scope cs N) (hcl:Ka scope X.env=pure (fX scope.names X.env [])) (hc:X.calm=true)
 (hback:∀ ρ d ρ',b d (dS ns.length cs ρ)=some ρ'→fgt js ρ'=dS ns.length cs ρ)
 (hi:FIG X tg iter src) (htg:∀ C s H fp,FG (ak X (ns ++ cs.map (·.1)) scope C s H fp) tg b) (helt:∀ C s H fp,FE (ak X (ns ++ cs.map (·.1)) scope C s H fp) elt fe) (hifs:∀ C s H fp,pX (ak X (ns ++ cs.map (·.1)) scope C s H fp) ifs tst)
 (hs:∀ x,Gs iter X.env x=pure x:=by intro _; kernel_rfl):FE X (.ListComp elt [⟨tg,iter,ifs,0⟩] scope pos) (aY ns.length cs src b tst fe):=by
 subst hosc hN
 constructor
 intro pins s σ H Q I h
 obtain ⟨ρ,E,o⟩:=h
 match ho:aY ns.length cs src b tst fe ρ with
 | none=>rw [ho] at o; exact o.elim
 | some r =>
  rw [ho] at o
  rw [eval_ListComp]
  have key:OutG X H (src ρ) fun J H'=>∃ ds ys,Same H H'∧WkG X.K J ds H'∧ds.length≤100000∧ys.length≤100000∧iB b tst fe (dS ns.length cs ρ) ds=some ys∧(∀ v H'',Same H' H''→Rep X.K H'' (.lst ys) v→Q v H''):=by
   rcases DK ho with ⟨c,e1,e2⟩ | ⟨ds,ys,e1,e2,l1,l2,e3⟩
   · subst e2; rw [e1]; exact o
   · subst e3; rw [e1]; exact fun J H' e wk=>⟨ds,ys,e,wk,l1,l2,e2,fun v H'' e2 r=>o v H'' (e.trans e2) r⟩
  refine L4 (use:=none) rfl hs hcl ok.kind ok.names (thn (hi.h pins s σ H _ I ⟨ρ,E,key⟩) fun v s1 h1=>thn h1 fun itv s2 h2=>?_)
  obtain ⟨it,fp,tn,J,H2,e,I2,T,st2,f2,ds,ys,e12,wk,hdl,hyl,hm,hQ⟩:=h2
  subst e
  refine iS cs ok hc htg helt hifs hback (E.mono e12) I2 T st2 f2 wk hdl hyl hm (RR:=fun acc C=>compPost (pi X.prog X.w) X.A X.xe none (EP X pins σ Q) acc C) fun D C s6 H5 vs m6 I6 D5 e5 r5 n6 C6 CD hC=>?_
  refine ⟨m6,n6,fun h7 sb7=>?_⟩
  have Cn:(upd H5 D (.lst vs)) C=none:=by rw [ao CD]; exact C6
  obtain ⟨q0,q1,q2,q3,q4,q5⟩:=I2.fpOk hC Cn
  have I7:Inv X pins σ (upd H5 D (.lst vs)) { s6 with heap:=h7 }:=I6.turned (t':=s6.toks) (fun b o hb e=>sb7.extBut b o hb e) q0 q1 q3 q4 q5
  exact ⟨.ref D,_,I7,rfl,hQ _ _ (e5.trans (au D5 _)) ⟨D,vs,rfl,am,Reps.mono (au D5 _) _ _ r5⟩⟩
theorem nM {X:Cx} {tg elt iter:Expr} {ifs:List Expr} {scope:Scope} {pos:Pos} {src:FnA} {tst:Option FnB} {fe:FnE} {b:Dv→Ev→Option Ev} {y:Str} {py spos:Pos} (i:Nat) (hnd:X.N.Nodup) (hiy:X.N[i]?=some y) (hxy:Loc X.env.scope y) (hfy:X.fn y=true∨X.env.scope.names.lookup y=some .local)
 (osc:Scope) (N ns:List Str) (js:List Nat) (cs:List (Str×Nat)) (hosc:X.env.scope=osc) (hN:X.N=N) (ok:g8 osc scope cs N) (hcl:Ka scope X.env=pure (fX scope.names X.env [])) (hc:X.calm=true)
 (hback:∀ ρ d ρ',b d (dS ns.length cs ρ)=some ρ'→fgt js ρ'=dS ns.length cs ρ)
 (hi:FIG X tg iter src) (htg:∀ C s H fp,FG (ak X (ns ++ cs.map (·.1)) scope C s H fp) tg b) (helt:∀ C s H fp,FE (ak X (ns ++ cs.map (·.1)) scope C s H fp) elt fe) (hifs:∀ C s H fp,pX (ak X (ns ++ cs.map (·.1)) scope C s H fp) ifs tst)
 (hsw:GW (.ListComp elt [⟨tg,iter,ifs,0⟩] scope pos) (some (.Name y py)) spos.line X.env=pure true:=by kernel_rfl)
 (hs:∀ x,Gs iter X.env x=pure x:=by intro _; kernel_rfl):PS X (.Assign [.Name y py] (.ListComp elt [⟨tg,iter,ifs,0⟩] scope pos) spos) (tC X i (aY ns.length cs src b tst fe)):=by
 subst hosc hN
 intro pins s σ H D0 I h
 obtain ⟨ρ,E,o⟩:=h
 match ho:aY ns.length cs src b tst fe ρ with
 | none=>rw [ho] at o; exact o.elim
 | some r =>
  rw [ho] at o
  have key:OutG X H (src ρ) fun J H'=>∃ ds ys,Same H H'∧WkG X.K J ds H'∧ds.length≤100000∧ys.length≤100000∧iB b tst fe (dS ns.length cs ρ) ds=some ys∧(∀ H5 p vs,Same H' H5→H5 p=none→Reps X.K H5 ys vs→D0.nx (σ.set i (some (.ref p))) (upd H5 p (.lst vs))):=by
   rcases DK ho with ⟨c,e1,e2⟩ | ⟨ds,ys,e1,e2,l1,l2,e3⟩
   · subst e2; rw [e1]; exact o
   · subst e3; rw [e1]; obtain ⟨ys',ey,o⟩:=o; cases ey; exact fun J H' e wk=>⟨ds,ys,e,wk,l1,l2,e2,fun H5 p vs e3 hp r=>o H5 p vs (e.trans e3) hp r⟩
  rw [exec_Assign_Name_used _ _ _ _ hsw]
  refine b_ (wpAny_standAt (b_ ?_))
  show m_ _ X.A (do let _ ← comprehension (.ListComp elt [⟨tg,iter,ifs,0⟩] scope pos) scope X.env _ (newList []) false (eval iter X.env) (some (Kr (.Name y py) X.env))) _ _ s
  refine b_ (GC (L4 (use:=some (Kr (.Name y py) X.env)) (Q:=fun _ s'=>SP X pins D0 .next s') rfl hs hcl ok.kind ok.names
   (thn (hi.h pins s σ H _ I ⟨ρ,E,key⟩) fun v s1 h1=>thn h1 fun itv s2 h2=>?_)) (fun _ s' hq=>d_ (d_ hq)) fun _ _ e=>e)
  obtain ⟨it,fp,tn,J,H2,e,I2,T,st2,f2,ds,ys,e12,wk,hdl,hyl,hm,hQ⟩:=h2
  subst e
  refine iS cs ok hc htg helt hifs hback (E.mono e12) I2 T st2 f2 wk hdl hyl hm (RR:=fun acc C=>compPost (pi X.prog X.w) X.A X.xe (some (Kr (.Name y py) X.env)) (fun _ s'=>SP X pins D0 .next s') acc C) fun D C s6 H5 vs m6 I6 D5 e5 r5 n6 C6 CD hC=>?_
  have Cn:(upd H5 D (.lst vs)) C=none:=by rw [ao CD]; exact C6
  have FC:=I2.fpOk hC Cn
  obtain ⟨oC,es,ep,hoC,hdC,rC⟩:=id n6
  have I6p:=I6.pinned (fp:=[C]) (fun b hb=>by
   have e:b=C:=by simpa using hb
   subst e; exact FC) (fun b hb=>by
   have e:b=C:=by simpa using hb
   subst e
   exact ⟨oC,hoC,fun v z=>by rw [hdC] at z; cases z⟩)
  refine thn (cT hnd hiy hxy hfy _ s6 σ _ (.ref D) (.ref D) (fun σ' H'=>σ'=σ.set i (some (.ref D))∧H'=upd H5 D (.lst vs)) I6p rfl ⟨rfl,rfl⟩) fun _ s8 ⟨σ8,H8,I8,e1,e2⟩=>?_
  subst e1 e2
  have hC8:=(I8.pin (C,oC) (s_ _ (s_ _ (bA (by simp) hoC)))).1
  refine ⟨m6,⟨oC,es,ep,hC8,hdC,rC⟩,fun h9 sb9=>?_⟩
  have I8':Inv X pins (σ.set i (some (.ref D))) (upd H5 D (.lst vs)) s8:=I8.unpinned
  obtain ⟨q0,q1,q2,q3,q4,q5⟩:=FC
  have I9:Inv X pins (σ.set i (some (.ref D))) (upd H5 D (.lst vs)) { s8 with heap:=h9 }:=I8'.turned (t':=s8.toks) (fun b o hb e=>sb9.extBut b o hb e) q0 q1 q3 q4 q5
  exact ⟨_,_,I9,hQ H5 D vs e5 D5 r5⟩
abbrev cF:=List (Str×Nat×List Str×(List Dv→Option (Rs Dv)))
theorem eW {β:Type} {x y:Str} {e e':β} {T:List (Str×β)} (h:((y,e) :: T).lookup x=some e'):(x=y∧e'=e)∨T.lookup x=some e':=by
 rw [GP] at h
 split at h
 · rename_i hb
   exact .inl ⟨Nq hb,by cases h; rfl⟩
 · exact .inr h
section
variable {P:Program} {w:x_} {K:ck} {mg:Str→Option Value} {base:Heap} {T:cF} {y:Str} {k:Nat} {ps:List Str} {F:List Dv→Option (Rs Dv)}
structure HA (P:Program) (w:x_) (K:ck) (mg:Str→Option Value) (base:Heap) (T:cF):Prop where
 h:∀ x e,T.lookup x=some e→Has P w K mg base x e.1 e.2.1 e.2.2
structure HAE (P:Program) (w:x_) (K:ck) (mg:Str→Option Value) (base:Heap) (T:cF):Prop where
 h:∀ x e,T.lookup x=some e→Cu P w K mg base x e.1 e.2.1 e.2.2
structure HAM (P:Program) (w:x_) (K:ck) (mg:Str→Option Value) (base:Heap) (T:cF):Prop where
 h:∀ x e,T.lookup x=some e→Cv P w K mg base x e.1 e.2.1 e.2.2
theorem Bg:HA P w K mg base []:=⟨fun _ _ h=>by cases h⟩
theorem xV:HAE P w K mg base []:=⟨fun _ _ h=>by cases h⟩
theorem xW:HAM P w K mg base []:=⟨fun _ _ h=>by cases h⟩
theorem aC (h:Has P w K mg base y k ps F) (t:HA P w K mg base T):HA P w K mg base ((y,k,ps,F) :: T):=⟨fun x e q=>by
 rcases eW q with ⟨rfl,rfl⟩ | q
 · exact h
 · exact t.h x e q⟩
theorem gh (h:Cu P w K mg base y k ps F) (t:HAE P w K mg base T):HAE P w K mg base ((y,k,ps,F) :: T):=⟨fun x e q=>by
 rcases eW q with ⟨rfl,rfl⟩ | q
 · exact h
 · exact t.h x e q⟩
theorem uC (h:Cv P w K mg base y k ps F) (t:HAM P w K mg base T):HAM P w K mg base ((y,k,ps,F) :: T):=⟨fun x e q=>by
 rcases eW q with ⟨rfl,rfl⟩ | q
 · exact h
 · exact t.h x e q⟩
abbrev yS:=List (Str×Option Dv)
def cN (s:String):Str×Option Dv:=(a_ s,none)
def cI (s:String) (i:Int):Str×Option Dv:=(a_ s,some (.int i))
def cS (s z:String):Str×Option Dv:=(a_ s,some (.str (a_ z)))
def Gb (mg:Str→Option Value) (x:Str):Option Dv→Prop
 | none=>mg x=none
 | some (.int i)=>∃ t,mg x=some (.int i t)
 | some (.str z)=>∃ t,mg x=some (.str z t)
 | _=>False
structure MA (mg:Str→Option Value) (C:yS):Prop where
 h:∀ x o,C.lookup x=some o→Gb mg x o
theorem MA.no {C:yS} {x:Str} (h:MA mg C) (e:C.lookup x=some none):mg x=none:=h.h x none e
def Eg (K:ck) (q:Str×Option Dv):Bool:=match q.2,HW K w_ q.1 with
 | none,some none=>true
 | some (.int i),some (some (.int j _))=>i == j
 | some (.str z),some (some (.str y _))=>z == y
 | _,_=>false
theorem Bh {h:Heap} (X:K.In h) (G:h.Ns w_ mg):∀ (C:yS),C.all (Eg K)=true→MA mg C
 | [],_=>⟨fun x o q=>by cases q⟩
 | (y,o) :: C,e=>⟨fun x o' q=>by
  rw [Hw,g_] at e
  rcases eW q with ⟨rfl,rfl⟩ | q
  · have h1:=e.1
    unfold Eg at h1
    dsimp only at h1
    split at h1
    · rename_i e1
      exact PySem.W.mg_none_of X G e1
    · rename_i i j t e1
      have hij:i=j:=Nq h1
      subst hij
      exact ⟨t,JP X G e1⟩
    · rename_i z y t e1
      have hij:z=y:=Nq h1
      subst hij
      exact ⟨t,JP X G e1⟩
    · cases h1
  · exact (Bh X G C e.2).h x o' q⟩
end
section
variable {X:Cx} {T:cF} {C:yS} {k' n:Nat} {x:Str} {p pos:Pos} {e:Expr} {es:List Expr} {F:List Dv→Option (Rs Dv)} {g:FnA}
theorem uD (hT:HA X.prog X.w X.K X.mg X.base T) (hr:Room k' X.A) (hF:(T.lookup x).map (fun q=>q.2.2)=some F) (ha:FA X (e :: es) g) (hk:((T.lookup x).all fun q=>OI q.1 k' && JZ n q.2.1.length)=true:=by kernel_rfl) (hg:X.env.kindOf x=some .globalImplicit:=by kernel_rfl) (hdb:(x == ("__debug__":Str))=false:=by kernel_rfl)
 (he:e_ (e :: es) X.env=(false,eval e X.env) :: e_ es X.env:=by kernel_rfl) (hpl:(GA pos (e_ es X.env)).any (·.1)=false:=by kernel_rfl) :
 FE X (.Call (.Name x p) (e :: es) [] pos) (ah F n g):=by
 cases hq:T.lookup x with
 | none=>rw [hq] at hF; cases hF
 | some q =>
  rw [hq] at hF hk
  cases hF
  rw [JY,g_] at hk
  exact tj q.1 q.2.1 q.2.2 (hT.h x q hq) hr (Io hk.1) hg ha (HR hk.2) hdb he hpl
theorem rg (hT:HAE X.prog X.w X.K X.mg X.base T) (hr:Room k' X.A) (hF:(T.lookup x).map (fun q=>q.2.2)=some F) (hex:X.ex=[]) (ha:FA X (e :: es) g) (hk:((T.lookup x).all fun q=>OI q.1 k' && JZ n q.2.1.length)=true:=by kernel_rfl) (hg:X.env.kindOf x=some .globalImplicit:=by kernel_rfl) (hdb:(x == ("__debug__":Str))=false:=by kernel_rfl)
 (he:e_ (e :: es) X.env=(false,eval e X.env) :: e_ es X.env:=by kernel_rfl) (hpl:(GA pos (e_ es X.env)).any (·.1)=false:=by kernel_rfl) :
 FE X (.Call (.Name x p) (e :: es) [] pos) (bH F n g):=by
 cases hq:T.lookup x with
 | none=>rw [hq] at hF; cases hF
 | some q =>
  rw [hq] at hF hk
  cases hF
  rw [JY,g_] at hk
  exact tJ q.1 q.2.1 q.2.2 (hT.h x q hq) hr (Io hk.1) hex hg ha (HR hk.2) hdb he hpl
theorem rh (hT:HAM X.prog X.w X.K X.mg X.base T) (hr:RoomM k' X.A) (hF:(T.lookup x).map (fun q=>q.2.2)=some F) (ha:FA X (e :: es) g) (hk:((T.lookup x).all fun q=>OI q.1 k' && JZ n q.2.1.length)=true:=by kernel_rfl) (hg:X.env.kindOf x=some .globalImplicit:=by kernel_rfl) (hdb:(x == ("__debug__":Str))=false:=by kernel_rfl)
 (he:e_ (e :: es) X.env=(false,eval e X.env) :: e_ es X.env:=by kernel_rfl) (hpl:(GA pos (e_ es X.env)).any (·.1)=false:=by kernel_rfl) :
 FE X (.Call (.Name x p) (e :: es) [] pos) (ah F n g):=by
 cases hq:T.lookup x with
 | none=>rw [hq] at hF; cases hF
 | some q =>
  rw [hq] at hF hk
  cases hF
  rw [JY,g_] at hk
  exact tQ q.1 q.2.1 q.2.2 (hT.h x q hq) hr (Io hk.1) hg ha (HR hk.2) hdb he hpl
theorem Eh {i:Int} (hM:MA X.mg C) (hl:C.lookup x=some (some (.int i))) (hg:X.env.kindOf x=some .globalImplicit:=by kernel_rfl) (hd:(x == ("__debug__":Str))=false:=by kernel_rfl):FE X (.Name x pos) (fC (.int i)) :=
 let ⟨_,h⟩:=hM.h x _ hl
 wF hg h hd
theorem Ei {z:Str} (hM:MA X.mg C) (hl:C.lookup x=some (some (.str z))) (hg:X.env.kindOf x=some .globalImplicit:=by kernel_rfl) (hd:(x == ("__debug__":Str))=false:=by kernel_rfl):FE X (.Name x pos) (fC (.str z)) :=
 let ⟨_,h⟩:=hM.h x _ hl
 wG hg h hd
def ndB:List Str→Bool
 | []=>true
 | x :: r=>!(r.contains x) && ndB r
theorem dt:∀ {l:List Str},ndB l=true→l.Nodup
 | [],_=>List.nodup_nil
 | x :: r,h=>by
  unfold ndB at h
  rw [g_] at h
  refine Hx.2 ⟨fun hx=>?_,dt h.2⟩
  have h1:=h.1
  rw [List.contains_iff_mem.2 hx] at h1
  cases h1
def dL (sc:Scope) (x:Str):Bool:=match sc.names.lookup x with
 | some .local=>true
 | some .cell=>true
 | _=>false
theorem bT {sc:Scope} {x:Str} (h:dL sc x=true):Loc sc x:=by
 unfold dL at h
 split at h
 · exact .inl ‹_›
 · exact .inr ‹_›
 · cases h
def vW (osc scope:Scope) (cs:List (Str×Nat)) (N:List Str):Bool :=
 decide (scope.kind=.function) && decide (∀ y∈scope.names,y.2=.cell→scope.names.lookup y.1=some .cell) && decide (∀ y∈scope.names,y.2=.local→scope.names.lookup y.1=some .local) && decide (∀ y∈scope.names,y.2=.free→osc.names.lookup y.1=some .cell∨osc.names.lookup y.1=some .free) && decide (∀ c∈cs,N[c.2]?=some c.1∧scope.names.lookup c.1=some .free)
theorem nN {osc scope:Scope} {cs:List (Str×Nat)} {N:List Str} (h:vW osc scope cs N=true):g8 osc scope cs N:=by
 unfold vW at h
 simp only [g_,decide_eq_true_eq] at h
 exact ⟨h.1.1.1.1,h.1.1.1.2,h.1.1.2,h.1.2,h.2⟩
theorem lkc {env:Env}:∀ {names:List (Str×IQ)} {x:Str},names.lookup x=some .cell →
 (names.map fun (n,k)=>if (k == HG && env.scope.kind == .function && env.kindOf n == some .cell) then (n,HY) else (n,k)).lookup x=some .cell
 | [],_,h=>by simp at h
 | (n,k) :: r,x,h=>by
  rw [GP] at h
  rw [t_]
  cases hx:x == n with
  | true =>
   rw [hx] at h
   cases h
   simp [GP,hx]
  | false =>
   rw [hx] at h
   have ih:=lkc (env:=env) h
   dsimp only
   split
   · rw [GP,hx]; exact ih
   · rw [GP,hx]; exact ih
theorem fgL {X:Cx} {N:List Str} {scope:Scope} {C:Addr} {s:c_} {H:Hp} {fp:List Addr} {x:Str} (h:dL scope x=true):Loc (ak X N scope C s H fp).env.scope x∧((ak X N scope C s H fp).fn x=true∨(ak X N scope C s H fp).env.scope.names.lookup x=some .local):=by
 rcases bT h with h | h
 · exact ⟨.inl (M3 h),.inr (M3 h)⟩
 · exact ⟨.inr (lkc h),.inl (by show (scope.names.lookup x == some .cell)=true; rw [h]; rfl)⟩
end
section
variable {X:Cx} {elt iter:Expr} {ifs:List Expr} {scope:Scope} {pos px py pt spos:Pos} {src:FnA} {tst:Option FnB} {fe:FnE} {cs:List (Str×Nat)} {x y z:Str} {i:Nat} {k:Nat}
theorem fgA {N:List Str} (C:Addr) (s:c_) (H:Hp) (fp:List Addr) (hnd:ndB N=true) (hx:N[0]?=some x) (hl:dL scope x=true):FG (ak X N scope C s H fp) (.Name x px) (gN 0) :=
 w8 0 (dt hnd) hx (fgL hl).1 (fgL hl).2
theorem Ej (hi:FIG X (.Name x px) iter src) (helt:∀ C s H fp,FE (ak X (x :: cs.map (·.1)) scope C s H fp) elt fe) (hifs:∀ C s H fp,pX (ak X (x :: cs.map (·.1)) scope C s H fp) ifs tst)
 (hok:vW X.env.scope scope cs X.N=true:=by kernel_rfl) (hcl:Ka scope X.env=pure (fX scope.names X.env []):=by kernel_rfl) (hc:X.calm=true:=by kernel_rfl) (hnd:ndB (x :: cs.map (·.1))=true:=by kernel_rfl) (hl:dL scope x=true:=by kernel_rfl)
 (hs:∀ x,Gs iter X.env x=pure x:=by intro _; kernel_rfl):FE X (.ListComp elt [⟨.Name x px,iter,ifs,0⟩] scope pos) (aO cs src tst fe) :=
 (xQ (cs:=cs) (src:=src) (tst:=tst) (fe:=fe)) ▸ nK X.env.scope X.N [x] [0] cs rfl rfl (nN hok) hcl hc (xb _) hi (fun C s H fp=>fgA C s H fp hnd rfl hl) helt hifs hs
theorem Ek (hi:FIG X (.Name x px) iter src) (helt:∀ C s H fp,FE (ak X (x :: cs.map (·.1)) scope C s H fp) elt fe) (hifs:∀ C s H fp,pX (ak X (x :: cs.map (·.1)) scope C s H fp) ifs tst)
 (hok:vW X.env.scope scope cs X.N=true:=by kernel_rfl) (hcl:Ka scope X.env=pure (fX scope.names X.env []):=by kernel_rfl) (hc:X.calm=true:=by kernel_rfl) (hnd:ndB (x :: cs.map (·.1))=true:=by kernel_rfl) (hl:dL scope x=true:=by kernel_rfl)
 (hs:∀ x,Gs iter X.env x=pure x:=by intro _; kernel_rfl):FE X (.ListComp elt [⟨.Name x px,iter,ifs,0⟩] scope pos) (aY 1 cs src (gN 0) tst fe) :=
 nK X.env.scope X.N [x] [0] cs rfl rfl (nN hok) hcl hc (xb _) hi (fun C s H fp=>fgA C s H fp hnd rfl hl) helt hifs hs
theorem Bi (hi:FIG X (.Name x px) iter src) (helt:∀ C s H fp,FE (ak X (x :: cs.map (·.1)) scope C s H fp) elt fe) (hifs:∀ C s H fp,pX (ak X (x :: cs.map (·.1)) scope C s H fp) ifs tst)
 (hN:ndB X.N=true) (hiy:X.N[i]?=some y) (hxy:dL X.env.scope y=true) (hfy:X.fn y=true)
 (hok:vW X.env.scope scope cs X.N=true) (hcl:Ka scope X.env=pure (fX scope.names X.env [])) (hc:X.calm=true) (hnd:ndB (x :: cs.map (·.1))=true) (hl:dL scope x=true)
 (hsw:GW (.ListComp elt [⟨.Name x px,iter,ifs,0⟩] scope pos) (some (.Name y py)) spos.line X.env=pure true)
 (hs:∀ x,Gs iter X.env x=pure x):PS X (.Assign [.Name y py] (.ListComp elt [⟨.Name x px,iter,ifs,0⟩] scope pos) spos) (tC X i (aY 1 cs src (gN 0) tst fe)) :=
 nM i (dt hN) hiy (bT hxy) (.inl hfy) X.env.scope X.N [x] [0] cs rfl rfl (nN hok) hcl hc (xb _) hi (fun C s H fp=>fgA C s H fp hnd rfl hl) helt hifs hsw hs
theorem El (hi:FIG X (.Name x px) iter src) (helt:∀ C s H fp,FE (ak X (x :: cs.map (·.1)) scope C s H fp) elt fe) (hifs:∀ C s H fp,pX (ak X (x :: cs.map (·.1)) scope C s H fp) ifs tst)
 (hsw:GW (.ListComp elt [⟨.Name x px,iter,ifs,0⟩] scope pos) (some (.Name y py)) spos.line X.env=pure true)
 (hN:ndB X.N=true:=by kernel_rfl) (hiy:X.N[i]?=some y:=by kernel_rfl) (hxy:dL X.env.scope y=true:=by kernel_rfl) (hfy:X.fn y=true:=by kernel_rfl)
 (hok:vW X.env.scope scope cs X.N=true:=by kernel_rfl) (hcl:Ka scope X.env=pure (fX scope.names X.env []):=by kernel_rfl) (hc:X.calm=true:=by kernel_rfl) (hnd:ndB (x :: cs.map (·.1))=true:=by kernel_rfl) (hl:dL scope x=true:=by kernel_rfl)
 (hs:∀ x,Gs iter X.env x=pure x:=by intro _; kernel_rfl):FS X (.Assign [.Name y py] (.ListComp elt [⟨.Name x px,iter,ifs,0⟩] scope pos) spos) (c8 i (aY 1 cs src (gN 0) tst fe)) :=
 qN (Bi hi helt hifs hN hiy hxy hfy hok hcl hc hnd hl hsw hs) gR
theorem Em {j:Nat} (hi:FIG X (.Name x px) iter src) (helt:∀ C s H fp,FE (ak X (x :: cs.map (·.1)) scope C s H fp) elt fe) (hifs:∀ C s H fp,pX (ak X (x :: cs.map (·.1)) scope C s H fp) ifs tst)
 (hex:X.ex=[]) (hij:JZ i j=false:=by kernel_rfl)
 (hsw:GW (.ListComp elt [⟨.Name x px,iter,ifs,0⟩] scope pos) (some (.Name y py)) spos.line X.env=pure true:=by kernel_rfl)
 (hN:ndB X.N=true:=by kernel_rfl) (hiy:X.N[j]?=some y:=by kernel_rfl) (hxy:dL X.env.scope y=true:=by kernel_rfl) (hfy:X.fn y=true:=by kernel_rfl)
 (hok:vW X.env.scope scope cs X.N=true:=by kernel_rfl) (hcl:Ka scope X.env=pure (fX scope.names X.env []):=by kernel_rfl) (hc:X.calm=true:=by kernel_rfl) (hnd:ndB (x :: cs.map (·.1))=true:=by kernel_rfl) (hl:dL scope x=true:=by kernel_rfl)
 (hs:∀ x,Gs iter X.env x=pure x:=by intro _; kernel_rfl):FO1 X i (.Assign [.Name y py] (.ListComp elt [⟨.Name x px,iter,ifs,0⟩] scope pos) spos) (cK j (aY 1 cs src (gN 0) tst fe)) :=
 xM hex j (Hm hij) (Bi hi helt hifs hN hiy hxy hfy hok hcl hc hnd hl hsw hs) gR
theorem Gc {N:List Str} (C:Addr) (s:c_) (H:Hp) (fp:List Addr) (hc:X.calm=true) (hnd:ndB N=true) (hx:N[0]?=some x) (hz:N[1]?=some z) (hl:dL scope x=true) (hl2:dL scope z=true)
 (a1:(GD [.Name x px,.Name z py] (ak X N scope C s H fp).env).map (·.2)=Kr (.Name x px) (ak X N scope C s H fp).env :: (GD [.Name z py] (ak X N scope C s H fp).env).map (·.2)) (a2:(GD [.Name z py] (ak X N scope C s H fp).env).map (·.2)=Kr (.Name z py) (ak X N scope C s H fp).env :: (GD [] (ak X N scope C s H fp).env).map (·.2))
 (a3:(GD [.Name x px,.Name z py] (ak X N scope C s H fp).env).length=2) (a4:(GD [.Name x px,.Name z py] (ak X N scope C s H fp).env).findIdx? (·.1)=none):FG (ak X N scope C s H fp) (.Tuple [.Name x px,.Name z py] k pt) (gP 0 1) :=
 w9 0 1 hc (dt hnd) hx (fgL hl).1 (fgL hl).2 hz (fgL hl2).1 (fgL hl2).2 a1 a2 a3 a4
theorem Eo {p2:Pos} (hi:FIG X (.Tuple [.Name x px,.Name z p2] k pt) iter src) (helt:∀ C s H fp,FE (ak X (x :: z :: cs.map (·.1)) scope C s H fp) elt fe) (hifs:∀ C s H fp,pX (ak X (x :: z :: cs.map (·.1)) scope C s H fp) ifs tst)
 (hsw:GW (.ListComp elt [⟨.Tuple [.Name x px,.Name z p2] k pt,iter,ifs,0⟩] scope pos) (some (.Name y py)) spos.line X.env=pure true)
 (hN:ndB X.N=true:=by kernel_rfl) (hiy:X.N[i]?=some y:=by kernel_rfl) (hxy:dL X.env.scope y=true:=by kernel_rfl) (hfy:X.fn y=true:=by kernel_rfl)
 (hok:vW X.env.scope scope cs X.N=true:=by kernel_rfl) (hcl:Ka scope X.env=pure (fX scope.names X.env []):=by kernel_rfl) (hc:X.calm=true:=by kernel_rfl) (hnd:ndB (x :: z :: cs.map (·.1))=true:=by kernel_rfl) (hl:dL scope x=true:=by kernel_rfl) (hl2:dL scope z=true:=by kernel_rfl)
 (hs:∀ x,Gs iter X.env x=pure x:=by intro _; kernel_rfl):FS X (.Assign [.Name y py] (.ListComp elt [⟨.Tuple [.Name x px,.Name z p2] k pt,iter,ifs,0⟩] scope pos) spos) (c8 i (aY 2 cs src (gP 0 1) tst fe)) :=
 qN (nM i (dt hN) hiy (bT hxy) (.inl hfy) X.env.scope X.N [x,z] [0,1] cs rfl rfl (nN hok) hcl hc (DM _) hi (fun C s H fp=>Gc C s H fp hc hnd rfl rfl hl hl2 rfl rfl rfl rfl) helt hifs hsw hs) gR
end
section
variable {X:Cx} {N:List Str} {scope:Scope} {c:Expr} {t:FnB}
theorem uE:∀ C s H fp,pX (ak X N scope C s H fp) [] none:=fun _ _ _ _=>rfl
theorem uF (h:∀ C s H fp,FT (ak X N scope C s H fp) c t):∀ C s H fp,pX (ak X N scope C s H fp) [c] (some t):=fun C s H fp=>⟨_,rfl,h C s H fp⟩
end
section
variable {X:Cx} {a b c e st ix tg iter:Expr} {fa fb fs fi:FnE} {pos p2 pos' py apos cpos pt p1 lp ps:Pos} {i j k kk:Nat} {js:List Nat} {x y:Str} {src g:FnA} {fS:FnS} {fO:dJ} {body sts:List Stmt} {es:List Expr} {is:List Nat}
theorem Bj (ha:FE X a fa) (hb:FE X b fb) (hs:∀ o i,Ow b false o i=operate [o,i] (MB o i):=by intro _ _; kernel_rfl):FE X (.Subscript a b pos) (f2 ixD fa fb):=Dy ha hb hs
theorem xX (he:FE X e fa) (hN:ndB X.N=true:=by kernel_rfl) (hi:X.N[i]?=some x:=by kernel_rfl) (hx:dL X.env.scope x=true:=by kernel_rfl) (hf:X.fn x=true:=by kernel_rfl) (hs:GW e (some (.Name x pos')) pos.line X.env=pure false:=by kernel_rfl):FS X (.Assign [.Name x pos'] e pos) (c8 i fa) :=
 zR i (dt hN) hi (bT hx) he hs (.inl hf)
theorem xY (he:FE X e fa) (hex:X.ex=[]:=by kernel_rfl) (hij:JZ i j=false:=by kernel_rfl) (hN:ndB X.N=true:=by kernel_rfl) (hi:X.N[j]?=some x:=by kernel_rfl) (hx:dL X.env.scope x=true:=by kernel_rfl) (hf:X.fn x=true:=by kernel_rfl) (hs:GW e (some (.Name x pos')) pos.line X.env=pure false:=by kernel_rfl):FO1 X i (.Assign [.Name x pos'] e pos) (cK j fa) :=
 Ax hex j (Hm hij) (dt hN) hi (bT hx) he hs (.inl hf)
theorem uG (hg:FA X es g) (hr:FOs X i sts fO) (hN:ndB X.N=true:=by kernel_rfl) (hi:X.N[i]?=some x:=by kernel_rfl) (hx:dL X.env.scope x=true:=by kernel_rfl) (hf:X.fn x=true:=by kernel_rfl) (hs:GW (.List es lp) (some (.Name x pos')) pos.line X.env=pure false:=by kernel_rfl):FSs X (.Assign [.Name x pos'] (.List es lp) pos :: sts) (sJ i g fO) :=
 xu (dt hN) hi (bT hx) hg hr hs (.inl hf)
theorem xZ (hp:Kk (pi X.prog X.w) X.A X.env X.xe) (hi:FI X (.Name x py) iter src) (hb:FSs X body fS) (hc:X.calm=true:=by kernel_rfl) (hN:ndB X.N=true:=by kernel_rfl) (hx:X.N[i]?=some x:=by kernel_rfl) (hl:dL X.env.scope x=true:=by kernel_rfl) (hf:X.fn x=true:=by kernel_rfl)
 (hs:∀ x,Gs iter X.env x=pure x:=by intro _; kernel_rfl):FS X (.For (.Name x py) iter body [] pos) (tf i js src fS) :=
 zV i js hp hc hi (cT (dt hN) hx (bT hl) (.inl hf)) hb hs
theorem x3 (hp:Kk (pi X.prog X.w) X.A X.env X.xe) (hi:FI X (.Name x py) iter src) (hb:FOs X i body fO) (hex:X.ex=[]:=by kernel_rfl) (hij:JZ i j=false:=by kernel_rfl) (hc:X.calm=true:=by kernel_rfl) (hN:ndB X.N=true:=by kernel_rfl) (hx:X.N[j]?=some x:=by kernel_rfl) (hl:dL X.env.scope x=true:=by kernel_rfl) (hf:X.fn x=true:=by kernel_rfl)
 (hs:∀ x,Gs iter X.env x=pure x:=by intro _; kernel_rfl):FO1 X i (.For (.Name x py) iter body [] pos) (m8 j js src fO) :=
 AB hex j js (Hm hij) hp hc hi (cT (dt hN) hx (bT hl) (.inl hf)) hb hs
theorem uH (hp:Kk (pi X.prog X.w) X.A X.env X.xe) (hi:FIG X (.Tuple [.Name x py,.Name y p2] kk pt) iter src) (hb:FOs X i body fO) (hex:X.ex=[]:=by kernel_rfl) (hij:JZ i j=false:=by kernel_rfl) (hik:JZ i k=false:=by kernel_rfl) (hc:X.calm=true:=by kernel_rfl) (hN:ndB X.N=true:=by kernel_rfl) (hx:X.N[j]?=some x:=by kernel_rfl) (hl:dL X.env.scope x=true:=by kernel_rfl) (hf:X.fn x=true:=by kernel_rfl) (hy:X.N[k]?=some y:=by kernel_rfl) (hl2:dL X.env.scope y=true:=by kernel_rfl) (hf2:X.fn y=true:=by kernel_rfl)
 (a1:(GD [.Name x py,.Name y p2] X.env).map (·.2)=Kr (.Name x py) X.env :: (GD [.Name y p2] X.env).map (·.2):=by kernel_rfl) (a2:(GD [.Name y p2] X.env).map (·.2)=Kr (.Name y p2) X.env :: (GD [] X.env).map (·.2):=by kernel_rfl)
 (a3:(GD [.Name x py,.Name y p2] X.env).length=2:=by kernel_rfl) (a4:(GD [.Name x py,.Name y p2] X.env).findIdx? (·.1)=none:=by kernel_rfl)
 (hs:∀ x,Gs iter X.env x=pure x:=by intro _; kernel_rfl):FO1 X i (.For (.Tuple [.Name x py,.Name y p2] kk pt) iter body [] pos) (oH j k js src fO) :=
 xF hex j k js (Hm hij) (Hm hik) hp hc hi (xE j k hc (dt hN) hx (bT hl) (.inl hf) hy (bT hl2) (.inl hf2) a1 a2 a3 a4) hb hs
theorem jA (hN:X.N[i]?=some x) (hv:dL X.env.scope x=true) (hd:(x == ("__debug__":Str))=false) (hcd:(x == ("__classdict__":Str))=false):PE X (.Name x pos) (vf i):=pk hN ((bT hv).elim .inl fun h=>.inr (.inl h)) hd hcd
theorem x4 (he:FE X e fa) (hx:PE X (.Name x apos) (vf i)) (hex:X.ex=[]:=by kernel_rfl)
 (hbase:HV (.Name x apos) "append" X.env (eval (.Name x apos) X.env)=eval (.Name x apos) X.env:=by kernel_rfl)
 (hfew:((GA cpos (e_ [e] X.env)).all (fun x=>!x.1) && (Ii cpos (Hc [] X.env)).all (fun x=>x.1.isSome)
   && decide ([e].length + ([]:List Ia).length + (if ([]:List Ia).isEmpty then 0 else 1) < 30))=true:=by kernel_rfl)
 (hline:(pt.endLine == cpos.line)=true:=by kernel_rfl) (hs:e_ [e] X.env=(false,eval e X.env) :: e_ [] X.env:=by kernel_rfl) (hplain:(GA cpos (e_ [] X.env)).any (·.1)=false:=by kernel_rfl)
 (hsw:GW (.Call (.Attribute (.Name x apos) "append" pt) [e] [] cpos) none pos.line X.env=pure false:=by kernel_rfl):FO1 X i (.Expr (.Call (.Attribute (.Name x apos) "append" pt) [e] [] cpos) pos) (lI fa):=AA hex hx he hbase hfew hline hs hplain hsw
end
section
variable {X:Cx} {o e:Expr} {es:List Expr} {fo:FnE} {ga:FnA} {apos cpos pos:Pos} {name:Str}
structure SmL (X:Cx) (o:Expr) (name:Str) (e:Expr) (es:List Expr) (apos cpos:Pos):Prop where
 base:HV o name X.env (eval o X.env)=eval o X.env
 few:((GA cpos (e_ (e :: es) X.env)).all (fun x=>!x.1) && (Ii cpos (Hc [] X.env)).all (fun x=>x.1.isSome)
  && decide ((e :: es).length + ([]:List Ia).length + (if ([]:List Ia).isEmpty then 0 else 1) < 30))=true
 line:(apos.endLine == cpos.line)=true
 s:e_ (e :: es) X.env=(false,eval e X.env) :: e_ es X.env
 plain:(GA cpos (e_ es X.env)).any (·.1)=false
theorem x5 {id:String} {r:V→List V→Hp→VK→Prop} {g:Str→List Dv→Option (Rs Dv)} (slot:Slot "str" name id) (hty:Oe (.builtin id)=pure (.type "method_descriptor")) (hm:MtR X id r)
 (hg:∀ i ds vs H Q,Reps X.K H ds vs→Out X H (g i ds) Q→r (.str i) vs H Q) (ho:FE X o fo) (ha:FA X (e :: es) ga) (h:SmL X o name e es apos cpos):FE X (.Call (.Attribute o name apos) (e :: es) [] cpos) (fM g fo ga) :=
 wX slot hty hm hg ho ha h.base h.few h.line h.s h.plain
end
section
open PySem.W
structure CA (K:ck) (mg:Str→Option Value) (cls:Nat→Addr) (CJ:Addr) (S:List Nat) (m:Nat):Prop where
 at_:∀ c∈S,mg (xnm c)=some (.ref (cls c))
 j:mg "JarError"=some (.ref CJ)
 xk:∀ c C,c < m→nsIn K w_ (xnm c)=some (some (.ref C))→excIn K C bmV "ValueError.__new__"=true∧mroIn K C (.ref CJ)=some true
theorem CA.c {K:ck} {mg:Str→Option Value} {cls:Nat→Addr} {CJ:Addr} {S:List Nat} {m c:Nat} {x:Str} (h:CA K mg cls CJ S m) (hc:c∈S) (hx:xnm c=x):mg x=some (.ref (cls c)):=by
 subst hx
 exact h.at_ c hc
def nsB (K:ck) (x:Str) (a:Addr):Bool:=match nsIn K w_ x with
 | some (some (.ref b))=>JZ a b
 | _=>false
theorem vX {K:ck} {x:Str} {a:Addr} (h:nsB K x a=true):nsIn K w_ x=some (some (.ref a)):=by
 unfold nsB at h
 split at h
 · rename_i b e
   rw [e,HR h]
 · cases h
def caB (K:ck) (S:List Nat) (Cs:List Addr) (CJ:Addr) (m:Nat):Bool:=S.all (fun c=>nsB K (xnm c) (Cs.getD c 0)) && nsB K "JarError" CJ && D6 K S Cs CJ && (h_ m).all fun c=>S.contains c || (match nsIn K w_ (xnm c) with | some none=>true | _=>false)
theorem Ep {K:ck} {mg:Str→Option Value} {h:Heap} {S:List Nat} {Cs:List Addr} {CJ:Addr} {m:Nat} (X:K.In h) (G:h.Ns w_ mg) (e:caB K S Cs CJ m=true):XAllS K S (fun c=>Cs.getD c 0) CJ∧CA K mg (fun c=>Cs.getD c 0) CJ S m:=by
 unfold caB at e
 rw [g_,g_,g_] at e
 obtain ⟨⟨⟨e1,e2⟩,e3⟩,e4⟩:=e
 have hn:∀ c∈S,nsIn K w_ (xnm c)=some (some (.ref (Cs.getD c 0))):=fun c hc=>vX (Gv.1 e1 c hc)
 have xa:=uf hn e3
 refine ⟨xa,fun c hc=>mg_of X G (hn c hc),mg_of X G (vX e2),fun c C hc q=>?_⟩
 have h1:=Gv.1 e4 c (Gy.2 hc)
 rw [Bool.or_eq_true] at h1
 rcases h1 with h1 | h1
 · have h':c∈S:=by simpa using h1
   rw [xa.same h' q]
   exact ⟨(xa.at_ c h').2.1,(xa.at_ c h').2.2.2.1⟩
 · rw [q] at h1
   cases h1
end
noncomputable abbrev nsM (K:ck) (x:Str):Option (Option Value):=HW K w_ x
structure Af (K:ck) (x:Str) (st:Stmt) (f:Addr):Prop where
 a:nsM K x=some (some (.ref f))
 F:∃ fd,Fun K x x st f fd
 k:Hv K (.ref f)=true
def fnB (N P:List Str) (sc:Scope):Bool:=decide (sc.kind=.function) && !sc.isCoroutine && !sc.isGenerator && ndB N && decide (N.take P.length=P) && P.all (dL sc) && decide (∀ y∈sc.names,y.2≠.free)
theorem Cz {N P:List Str} {sc:Scope} (h:fnB N P sc=true):da N P sc:=by
 unfold fnB at h
 simp only [g_,decide_eq_true_eq,Ju] at h
 exact ⟨h.1.1.1.1.1.1,h.1.1.1.1.1.2,h.1.1.1.1.2,dt h.1.1.1.2,h.1.1.2,fun x hx=>bT (Gv.1 h.1.2 x hx),h.2⟩
section
variable {P:Program} {w:x_} {K:ck} {mg:Str→Option Value} {base:Heap} {h:Heap} {k:Nat} {x:Str} {st:Stmt} {f:Addr} {F:List Dv→Option (Rs Dv)}
def Er (x:Str) (st:Stmt) (ps:List Str):Prop:=∀ (kV doc pm:Value) (an:Option Addr) (cdv ct:Value) (us:List Value),us.length=ps.length→bindArgs (I_ x x (fu st) (bG st) (aq st) .none kV doc pm an cdv ct) ⟨us,[]⟩=pure (ps.zip us)
theorem aP (XI:K.In h) (Gn:h.Ns w_ mg) (N ps:List Str) (fb:FnS) (A:Af K x st f) (hbd:Er x st ps)
 (hb:∀ (cdv:Value) (A:u_) (outer:List Env) (s:c_) (H:Hp) (E:XK),Room k (A.deeper (Kc x (aq st) s.heap.objs.size f cdv))→FSs (mJ CX0 P w K mg base N x (aq st) f cdv A outer s H E).nox (bG st) fb) (hF:F=bV N.length fb:=by kernel_rfl) (hs:fnB N ps (aq st)=true:=by kernel_rfl):Has P w K mg base x (k + 1) ps F :=
 let ⟨_,Fn⟩:=A.F
 ⟨_,_,vv N ps fb hF rfl Fn (Cz hs) hb,JP XI Gn A.a,A.k,Fn.binds hbd⟩
theorem jB (XI:K.In h) (Gn:h.Ns w_ mg) (N ps:List Str) (fb:FnS) (A:Af K x st f) (hbd:Er x st ps)
 (hb:∀ (cdv:Value) (A:u_) (outer:List Env) (s:c_) (H:Hp) (E:XK),Room k (A.deeper (Kc x (aq st) s.heap.objs.size f cdv))→FSs (mJ (CXE P w) P w K mg base N x (aq st) f cdv A outer s H E) (bG st) fb) (hF:F=mV N.length fb:=by kernel_rfl) (hs:fnB N ps (aq st)=true:=by kernel_rfl):Cu P w K mg base x (k + 1) ps F :=
 let ⟨_,Fn⟩:=A.F
 ⟨_,_,Aj N ps fb hF rfl Fn (Cz hs) hb,JP XI Gn A.a,A.k,Fn.binds hbd⟩
theorem x8 (XI:K.In h) (Gn:h.Ns w_ mg) (N ps:List Str) (fb:FnS) (A:Af K x st f) (hbd:Er x st ps)
 (hb:∀ (cdv:Value) (A:u_) (outer:List Env) (s:c_) (H:Hp),RoomM k (A.deeper (Kc x (aq st) s.heap.objs.size f cdv))→FSs (cxM P w K mg base N x (aq st) f cdv A outer s H) (bG st) fb) (hF:F=bV N.length fb:=by kernel_rfl) (hs:fnB N ps (aq st)=true:=by kernel_rfl):Cv P w K mg base x (k + 1) ps F :=
 let ⟨_,Fn⟩:=A.F
 ⟨_,_,Ao N ps fb hF Fn (Cz hs) hb,JP XI Gn A.a,A.k,Fn.binds hbd⟩
end
section
theorem ya {X:Cx} {pl:List (Addr×Obj)} {e:Addr} {k:Nat} (h:Room k X.A):RoomM k (kh X pl e).A:=⟨h.dp,h.un⟩
end
end FD
namespace TS
open PySem PySem.Spec PyProof.Rows L2 FD
def Es (p q:Value) (e l:Bool):Prop:=∀ (prog:Program) (w:x_) (A:u_) (E:Value→c_→Prop) (s:c_),
 (∀ Q:Bool→c_→Prop,Q e s→m_ (pi prog w) A (eqBool p q) Q E s)∧(∀ Q:Value→c_→Prop,Q (.bool l) s→m_ (pi prog w) A (richCompare .Gt p q) Q E s)
inductive iT:List (Value×Value)→List (Bool×Bool)→Prop
 | nil:iT [] []
 | cons {p q:Value} {e l:Bool} {ps:List (Value×Value)} {rs:List (Bool×Bool)}:Es p q e l→iT ps rs→iT ((p,q) :: ps) ((e,l) :: rs)
def ri:List Int→List Int→Bool
 | x :: xs,y :: ys=>if x=y then ri xs ys else decide (y < x)
 | _,_=>false
theorem iU:∀ {ks js:List Int} {xs ys:List Value},ks.length=js.length→Vals (ks.map V.int) xs→Vals (js.map V.int) ys→∃ rs,iT (xs.zip ys) rs∧(bq rs).getD false=ri ks js
 | [],[],xs,ys,_,v,v'=>by
  cases v
  exact ⟨[],.nil,rfl⟩
 | k :: ks,j :: js,xs,ys,hl,v,v'=>by
  cases v with
  | cons v1 v2 =>
   cases v' with
   | cons v1' v2' =>
    obtain ⟨rs,i1,i2⟩:=iU (by simpa using hl) v2 v2'
    obtain ⟨t,rfl⟩:=v1
    obtain ⟨t',rfl⟩:=v1'
    refine ⟨(k == j,decide (j < k)) :: rs,.cons (fun prog w A E s=>⟨(ny s.heap A false k j t t' prog w E s rfl).1,fun Q h=>(PyProof.Rows.gt_int h:m_ (pi prog w) A (Gx .Gt (.int k t) (.int j t')) Q E s)⟩) i1,?_⟩
    rw [ce,i2]
    simp [ri]
 | [],_ :: _,_,_,h,_,_=>by simp at h
 | _ :: _,[],_,_,h,_,_=>by simp at h
section
open PySem.SeqAt
open PySem.AutoSeq1 (wpAny_loadPart')
open PySem.MeetsSeq PySem.MeetsSeq2 PySem.MeetsSeq3
theorem rj (l b:Addr) (items items2:Array Value) (n n2:Nat) (dd dd2:Option Addr) (sl sl2:Array (Option Value)) (rs:List (Bool×Bool)) (hi:iT (items.toList.zip items2.toList) rs) (hz:items.size=items2.size) :
 Meets (K3.«tuple.__gt__» ⟨[.ref l,.ref b],[]⟩)
  (fun _ R s=>s.heap.get? l=some { cls:=.type "tuple",dict:=dd,data:=.seq items n,slots:=sl }∧s.heap.get? b=some { cls:=.type "tuple",dict:=dd2,data:=.seq items2 n2,slots:=sl2 } ∧
    R (.ok (.ret (.bool ((bq rs).getD false)))) s) :=
 .of_wp fun prog w A R s h=>by
  obtain ⟨hp,g,d,tk,os⟩:=s; obtain ⟨hl,hb,h⟩:=h
  have f2:=L8
  wp_walk using La hl,La hb,JD _ (fun rest b s'=>b.1=none∧s'=⟨hp,g,d,tk,os⟩∧∃ rs',iT rest rs'∧R (.ok (.ret (.bool ((bq rs').getD false)))) ⟨hp,g,d,tk,os⟩) _
  case turn =>
   rintro ⟨y,x⟩ rest b s' ⟨hb',rfl,rs',hI,hR⟩
   cases hI with
   | cons i r =>
    rename_i e lw rs''
    rw [ce] at hR
    refine b_ ((i prog w _ _ _).1 _ ?_)
    cases e with
    | true =>
     wp_walk
     exact ⟨rfl,rfl,_,r,by simpa using hR⟩
    | false =>
     have hri:=fun Q h=>(i prog w A.in1 (fun e s'=>R (.error e) s') ⟨hp,g,d,tk,os⟩).2 Q h
     wp_walk using hri
     exact ⟨_,rfl,by simpa using hR⟩
  case fin =>
   rintro ⟨b1,b2⟩ s' ⟨hb',rfl,rs',hI,hR⟩
   simp only at hb'
   subst hb'
   cases hI
   wp_walk
   exact ⟨_,rfl,by simpa [KN,hz,bq] using hR⟩
  case h =>
   exact ⟨rfl,rfl,rs,hi,h⟩
end
end TS
namespace FD
open PySem PySem.Spec PyProof.Rows L2 TS
def gtT:Dv→Dv→Option (Rs Dv)
 | .tup xs,.tup ys=>(match dO xs,dO ys with | some ns,some ms=>if ns.length=ms.length then some (.ok (.bl (ri ns ms))) else none | _,_=>none)
 | _,_=>none
def Fu:R2:=fun x y H Q=>∃ a b ns ms,x=.ref a∧y=.ref b∧H a=some (.tup (ns.map V.int))∧H b=some (.tup (ms.map V.int))∧ns.length=ms.length∧Q (.bl (ri ns ms)) H
theorem hU {K:ck} {H:Hp}:∀ {ds:List Dv} {ns:List Int} {us:List V},dO ds=some ns→Reps K H ds us→us=ns.map V.int
 | [],ns,us,h,r=>by
  cases h
  exact (show us=[] from r)
 | .int x :: ds,ns,us,h,r=>by
  obtain ⟨v,vs,rfl,r1,r2⟩:∃ v vs,us=v :: vs∧Rep K H (.int x) v∧Reps K H ds vs:=r
  cases (show v=.int x from r1)
  obtain ⟨k',h1,rfl⟩:=Gq.mp (show (dO ds).map (x :: ·)=some ns from h)
  rw [hU h1 r2]
  rfl
 | .non :: _,_,_,h,_=>by cases h
 | .bl _ :: _,_,_,h,_=>by cases h
 | .str _ :: _,_,_,h,_=>by cases h
 | .tup _ :: _,_,_,h,_=>by cases h
 | .lst _ :: _,_,_,h,_=>by cases h
 | .scr _ :: _,_,_,h,_=>by cases h
 | .exn _ :: _,_,_,h,_=>by cases h
section
variable {X:Cx}
theorem Et (hu:X.A.units + 64 < cLine):OpR X (Gx .Gt) Fu:=by
 intro pins s σ H x y v u Q I rx ry h
 obtain ⟨a,b,ns,ms,rfl,rfl,ha,hb,hl,q⟩:=h
 cases rx
 cases ry
 obtain ⟨its,r1,p1,_⟩:=I.tuple (SqT.of ha)
 obtain ⟨its2,r2,p2,_⟩:=I.tuple (SqT.of hb)
 obtain ⟨rs,i1,i2⟩:=iU hl r1 r2
 obtain ⟨⟨cls,dd,data,sl⟩,ho,hc,n,hd⟩:=id p1
 obtain ⟨⟨cls2,dd2,data2,sl2⟩,ho2,hc2,n2,hd2⟩:=id p2
 simp only at hc hd hc2 hd2
 subst hc hd hc2 hd2
 have hz:its.toArray.size=its2.toArray.size:=by
  have e1:=r1.length
  have e2:=r2.length
  simp at e1 e2 ⊢
  omega
 rw [← i2] at q
 exact My (op:=.Gt) ⟨_,ho,rfl⟩ ⟨_,ho2,rfl⟩ PySem.F.slot_tuple_gt PySem.F.entry_tuple_gt (PySem.F.args_tuple_gt_2 _ _) (rj a b its.toArray its2.toArray n n2 dd dd2 sl sl2 rs i1 hz)
  ⟨ho,ho2,show Hy ((bq rs).getD false)≠M5∧_ from ⟨(fun x=>nomatch x),.bl ((bq rs).getD false),H,I,rfl,q⟩⟩ (by omega)
theorem Eu:GOp X Fu gtT:=by
 intro dx dy x y H Q rx ry o
 cases dx <;> cases dy <;> try exact (show False from o).elim
 rename_i xs ys
 simp only [gtT] at o
 split at o
 · rename_i ns ms e1 e2
   split at o
   · rename_i hl
     obtain ⟨a,us,rfl,ha,r⟩:=rx.tupE
     obtain ⟨b,us',rfl,hb,r'⟩:=ry.tupE
     rw [hU e1 r] at ha
     rw [hU e2 r'] at hb
     exact ⟨a,b,ns,ms,rfl,rfl,ha,hb,hl,o _ H (.refl H) rfl⟩
   · exact o.elim
 · exact o.elim
end
end FD
namespace FD
open PySem PySem.Spec PyProof.Rows L2
def ix (k:Int):List Int→Nat
 | []=>0
 | m :: r=>if m=k then 0 else ix k r + 1
def er (k:Int):List Int→List Int
 | []=>[]
 | m :: r=>if m=k then r else m :: er k r
structure S2 (X:Cx) (i k:Nat) (a b:Addr) (H:Hp) (σ:L2.St) (Hf:Hp) (ρ:Ev):Prop where
 off:∀ c,c≠a→c≠b→Hf c=H c
 na:H a=none
 nb:H b=none
 ne:a≠b
 ia:σ[i]?=some (some (.ref a))
 kb:σ[k]?=some (some (.ref b))
 len:σ.length=ρ.length
 low:∀ j d,j≠i→j≠k→ρ[j]?=some (some d)→∃ v,σ[j]?=some (some v)∧Rep X.K H d v
 fst:∃ ds xs,ρ[i]?=some (some (.lst ds))∧Hf a=some (.lst xs)∧Reps X.K H ds xs
 snd:∃ es ys,ρ[k]?=some (some (.lst es))∧Hf b=some (.lst ys)∧Reps X.K H es ys
section
variable {X:Cx} {i k:Nat} {a b:Addr} {H Hf:Hp} {σ:L2.St} {ρ:Ev}
theorem S2.up (S:S2 X i k a b H σ Hf ρ):Same H Hf:=fun c u q=>by
 rw [S.off c (ar q S.na) (ar q S.nb)]; exact q
theorem S2.grow (S:S2 X i k a b H σ Hf ρ) {Hg:Hp} (e:Same Hf Hg):∃ H',Same H H'∧S2 X i k a b H' σ Hg ρ:=by
 obtain ⟨ds,xs,f1,f2,f3⟩:=S.fst
 obtain ⟨es,ys,g1,g2,g3⟩:=S.snd
 have up:Same H (fun c=>if c=a∨c=b then none else Hg c):=fun c u q=>by
  have h1:=ar q S.na
  have h2:=ar q S.nb
  simp only [h1,h2,or_self,if_false]
  exact e c u (by rw [S.off c h1 h2]; exact q)
 refine ⟨_,up,⟨fun c h1 h2=>by simp [h1,h2],by simp,by simp,S.ne,S.ia,S.kb,S.len,fun j d h1 h2 h3=>?_,⟨ds,xs,f1,e _ _ f2,Reps.mono up _ _ f3⟩,⟨es,ys,g1,e _ _ g2,Reps.mono up _ _ g3⟩⟩⟩
 obtain ⟨v,q1,q2⟩:=S.low j d h1 h2 h3
 exact ⟨v,q1,Rep.mono up _ _ q2⟩
theorem S2.put (S:S2 X i k a b H σ Hf ρ) {j:Nat} {d:Dv} {v:V} (h1:j≠i) (h2:j≠k) (r:Rep X.K H d v):S2 X i k a b H (σ.set j (some v)) Hf (ρ.set j (some d)):=by
 obtain ⟨ds,xs,f1,f2,f3⟩:=S.fst
 obtain ⟨es,ys,g1,g2,g3⟩:=S.snd
 refine ⟨S.off,S.na,S.nb,S.ne,by rw [uk h1]; exact S.ia,by rw [uk h2]; exact S.kb,by rw [GQ,GQ]; exact S.len,fun m d' m1 m2 hm=>?_,⟨ds,xs,by rw [uk h1]; exact f1,f2,f3⟩,⟨es,ys,by rw [uk h2]; exact g1,g2,g3⟩⟩
 by_cases hj:j=m
 · subst hj
   by_cases hl:j < ρ.length
   · rw [B_ hl] at hm
     cases hm
     exact ⟨v,by rw [B_ (by rw [S.len]; exact hl)],r⟩
   · rw [GE (by rw [GQ]; omega)] at hm
     cases hm
 · rw [uk hj] at hm
   rw [uk hj]
   exact S.low m d' m1 m2 hm
end
abbrev FnP:=Ev→Option Ev
def AftP (X:Cx) (i k:Nat) (a b:Addr) (H:Hp) (o:Option Ev) (N:L2.St→Hp→Prop):Prop:=∃ ρ',o=some ρ'∧∀ σ' H' Hf',Same H H'→S2 X i k a b H' σ' Hf' ρ'→N σ' Hf'
def tP (X:Cx) (i k:Nat) (f:FnP):TS:=fun D σ Hf=>∃ H a b ρ,S2 X i k a b H σ Hf ρ∧AftP X i k a b H (f ρ) D.nx
structure FP (X:Cx) (i k:Nat) (st:Stmt) (f:FnP):Prop where
 h:PS X st (tP X i k f)
structure FPs (X:Cx) (i k:Nat) (st:List Stmt) (f:FnP):Prop where
 h:PSs X st (tP X i k f)
section
variable {X:Cx} {i k:Nat} {st:Stmt} {sts:List Stmt} {f g:FnP} {fe:FnE} {gb:FnB} {e c:Expr} {pos:Pos}
theorem AftP.mono {a b:Addr} {H H':Hp} {o:Option Ev} {N:L2.St→Hp→Prop} (e:Same H H'):AftP X i k a b H o N→AftP X i k a b H' o N
 | ⟨ρ',h,q⟩=>⟨ρ',h,fun σ' H1 Hf' e1=>q σ' H1 Hf' (e.trans e1)⟩
end
section
variable {X:Cx} {elt iter:Expr} {x y z w:Str} {px py pz pw pt pos:Pos} {ifs:List Expr} {scope:Scope} {k:Nat} {src:FnA} {tst:Option FnB} {fe:FnE} {cs:List (Str×Nat)}
end
section
variable {X:Cx} {i k:Nat} {st:Stmt} {sts:List Stmt} {f g:FnP} {fe:FnE} {gb:FnB} {e c:Expr} {pos:Pos}
end
def lS (i j:Nat) (f:FnE):dJ:=fun ρ ds=>pc (f (ρ.set i (some (.lst ds)))) fun d=>if imm d=true then some (.nx (ρ.set j (some d)) ds) else none
section
variable {X:Cx} {i:Nat} {e:Expr} {fe:FnE} {pos:Pos}
theorem yb (j:Nat) (hij:i≠j) {x:Str} {pos':Pos} (hN:X.N.Nodup) (hi:X.N[j]?=some x) (hx:Loc X.env.scope x) (he:FE X e fe) (hs:GW e (some (.Name x pos')) pos.line X.env=pure false:=by kernel_rfl) (hf:X.fn x=true∨X.env.scope.names.lookup x=some .local:=by first | exact .inl rfl | exact .inr rfl | assumption) :
 FO1 X i (.Assign [.Name x pos'] e pos) (lS i j fe):=⟨fun pins s σ Hf D I ⟨H,a,xs,ρ,ds,e1,ha,hia,E,r,o⟩=>by
 subst e1
 refine ip hN hi hx he.h hs hf pins s σ _ D I ⟨_,dq ha hia E r,?_⟩
 unfold lS at o
 match hfe:fe (ρ.set i (some (.lst ds))) with
 | none=>rw [hfe] at o; exact o.elim
 | some (.exc _)=>rw [hfe] at o; exact o.elim
 | some (.ok d) =>
  rw [hfe] at o
  have o2:OutW X i a H (if imm d=true then some (.nx (ρ.set j (some d)) ds) else none) D:=o
  split at o2
  · rename_i im
    intro v H2 e2 rd
    obtain ⟨H',q1,q2,q3⟩:=lJ ha e2
    subst q1
    exact o2 _ H' xs q3 q2 (by rw [uk (Im hij)]; exact hia) ((E.mono q3).set (gf im rd)) (Reps.mono q3 _ _ r)
  · exact o2.elim⟩
theorem uI {j:Nat} {x:Str} {pos':Pos} (he:FE X e fe) (hij:JZ i j=false:=by kernel_rfl) (hN:ndB X.N=true:=by kernel_rfl) (hi:X.N[j]?=some x:=by kernel_rfl) (hx:dL X.env.scope x=true:=by kernel_rfl) (hf:X.fn x=true:=by kernel_rfl) (hs:GW e (some (.Name x pos')) pos.line X.env=pure false:=by kernel_rfl) :
 FO1 X i (.Assign [.Name x pos'] e pos) (lS i j fe):=yb j (Hm hij) (dt hN) hi (bT hx) he hs (.inl hf)
end
end FD
namespace L2
open PySem PySem.Spec PyProof.Rows
section
variable {κ:Type} [DecidableEq κ]
def jN (kvs:List (κ×V)) (k:κ):Option V:=(kvs.find? fun kv=>decide (kv.1=k)).map (·.2)
def lm (kvs:List (κ×V)) (k:κ) (v:V):List (κ×V) :=
 if (kvs.any fun kv=>decide (kv.1=k))=true then kvs.map (fun kv=>if kv.1=k then (kv.1,v) else kv) else kvs ++ [(k,v)]
def Bk (kvs:List (κ×V)) (k:κ):List (κ×V):=kvs.filter fun kv=>decide (kv.1≠k)
theorem gj {p:κ×V} {r:List (κ×V)} {k:κ} (e:p.1=k):jN (p :: r) k=some p.2:=by simp [jN,Ig,e]
theorem gk {p:κ×V} {r:List (κ×V)} {k:κ} (e:¬ p.1=k):jN (p :: r) k=jN r k:=by simp [jN,Ig,e]
theorem nO (k:κ):∀ kvs:List (κ×V),(kvs.any fun kv=>decide (kv.1=k))=(jN kvs k).isSome
 | []=>rfl
 | p :: r=>by
  rw [HH]
  by_cases e:p.1=k
  · simp only [gj e,decide_eq_true e,Bool.true_or,NO]
  · rw [gk e,decide_eq_false e,Bool.false_or]; exact nO k r
theorem hW (kvs:List (κ×V)) (k:κ) (v:V):(lm kvs k v).length≤kvs.length + 1:=by
 unfold lm
 split
 · rw [Gw]; omega
 · rw [G8,Gu,List.length_nil]; omega
theorem RelO.isSome_eq {o:Option V} {u:Option Value} (r:RelO o u):o.isSome=u.isSome:=by
 cases o with
 | none=>cases u with
  | none=>rfl
  | some _=>exact (show False from r).elim
 | some _=>cases u with
  | none=>exact (show False from r).elim
  | some _=>rfl
theorem RelO.getD {o:Option V} {u:Option Value} {d:V} {d':Value} (r:RelO o u) (rd:RelV d d'):RelV (o.getD d) (u.getD d'):=by
 cases o with
 | none=>cases u with
  | none=>exact rd
  | some _=>exact (show False from r).elim
 | some _=>cases u with
  | none=>exact (show False from r).elim
  | some _=>exact r
theorem KV.val {kvs:List (κ×V)} {vs:List (κ×Value)} (r:KV kvs vs) (k:κ):RelO (jN kvs k) (NV vs k):=by
 unfold KV at r
 induction r with
 | nil=>exact IX
 | @cons p q ps qs h t ih =>
  obtain ⟨h1,h2⟩:=h
  by_cases e:p.1=k
  · have e':q.1=k:=h1.symm.trans e
    have b:NV (q :: qs) k=some q.2:=by simp [NV,Ig,e']
    rw [gj e,b]; exact h2
  · have e':¬ q.1=k:=fun z=>e (h1.trans z)
    have b:NV (q :: qs) k=NV qs k:=by simp [NV,Ig,e']
    rw [gk e,b]; exact ih
theorem KV.any {kvs:List (κ×V)} {vs:List (κ×Value)} (r:KV kvs vs) (k:κ):(kvs.any fun kv=>decide (kv.1=k))=vs.any fun kv=>decide (kv.1=k):=by
 unfold KV at r
 induction r with
 | nil=>rfl
 | cons h t ih=>rw [HH,HH,ih,h.1]
theorem KV.repl {kvs:List (κ×V)} {vs:List (κ×Value)} (r:KV kvs vs) (k:κ) {y:V} {u:Value} (ry:RelV y u) :
 KV (kvs.map fun kv=>if kv.1=k then (kv.1,y) else kv) (vs.map fun kv=>if kv.1=k then (kv.1,u) else kv):=by
 unfold KV at r ⊢
 induction r with
 | nil=>exact .nil
 | @cons p q ps qs h t ih =>
  rw [t_,t_]
  refine .cons ?_ ih
  obtain ⟨h1,h2⟩:=h
  by_cases e:p.1=k
  · rw [if_pos e,if_pos (h1.symm.trans e)]; exact ⟨h1,ry⟩
  · rw [if_neg e,if_neg (fun z=>e (h1.trans z))]; exact ⟨h1,h2⟩
theorem KV.put {kvs:List (κ×V)} {vs:List (κ×Value)} (r:KV kvs vs) (k:κ) {y:V} {u:Value} (ry:RelV y u):KV (lm kvs k y) (stored vs k u):=by
 unfold lm stored
 rw [r.any k]
 by_cases e:(vs.any fun kv=>decide (kv.1=k))=true
 · rw [if_pos e,if_pos e]; exact r.repl k ry
 · rw [if_neg e,if_neg e]; exact Paired.snoc r ⟨rfl,ry⟩
theorem KV.drop {kvs:List (κ×V)} {vs:List (κ×Value)} (r:KV kvs vs) (k:κ):KV (Bk kvs k) (without vs k):=by
 unfold KV at r ⊢
 unfold Bk without
 induction r with
 | nil=>exact .nil
 | @cons p q ps qs h t ih =>
  obtain ⟨h1,h2⟩:=h
  rw [Ou,Ou]
  by_cases e:p.1=k
  · have a:¬ decide (p.1≠k)=true:=by simp [e]
    have b:¬ decide (q.1≠k)=true:=by simp [h1.symm.trans e]
    rw [if_neg a,if_neg b]; exact ih
  · have e':¬ q.1=k:=fun z=>e (h1.trans z)
    have a:decide (p.1≠k)=true:=by simp [e]
    have b:decide (q.1≠k)=true:=by simp [e']
    rw [if_pos a,if_pos b]; exact .cons ⟨h1,h2⟩ ih
theorem KV.keys {kvs:List (κ×V)} {vs:List (κ×Value)} (r:KV kvs vs):kvs.map (·.1)=vs.map (·.1):=by
 unfold KV at r
 induction r with
 | nil=>rfl
 | cons h t ih=>rw [t_,t_,ih,h.1]
theorem KV.length {kvs:List (κ×V)} {vs:List (κ×Value)} (r:KV kvs vs):kvs.length=vs.length:=L6 r
end
theorem yc {P:Program} {w:x_} {k:Key} {u:Value} (r:RelV (kV k) u):(bu P w).is k u=true:=by
 cases k with
 | inl i=>obtain ⟨t,e⟩:=(show ∃ t,u=Nl i t from r); subst e; exact ln P w i t
 | inr x=>obtain ⟨t,e⟩:=(show ∃ t,u=Ki x t from r); subst e; exact lq P w x t
theorem kL {P:Program} {w:x_}:∀ {ks:List Key} {us:List Value},Vals (ks.map kV) us→ItemsAre (bu P w) ks us
 | [],_,r=>by rw [JH] at r; cases r; exact .nil
 | k :: ks,_,r=>by
  rw [t_] at r
  cases r with
  | cons h t=>exact .cons (yc h) (kL t)
abbrev KT (H:Hp):List (List Key×V)→List (List Key×Addr×Value)→Prop:=OU fun p q=>p.1=q.1∧H q.2.1=some (.tup (p.1.map kV))∧RelV p.2 q.2.2
theorem KT.val {H:Hp} {kvs:List (List Key×V)} {xs:List (List Key×Addr×Value)} (r:KT H kvs xs) (k:List Key):RelO (jN kvs k) ((OQ xs k).map (·.2)):=by
 induction r with
 | nil=>exact IX
 | @cons p q ps qs h t ih =>
  obtain ⟨h1,_,h2⟩:=h
  by_cases e:p.1=k
  · have e':q.1=k:=h1.symm.trans e
    have b:OQ (q :: qs) k=some q.2:=by simp [OQ,Ig,e']
    rw [gj e,b]; exact h2
  · have e':¬ q.1=k:=fun z=>e (h1.trans z)
    have b:OQ (q :: qs) k=OQ qs k:=by simp [OQ,Ig,e']
    rw [gk e,b]; exact ih
theorem KT.repl {H:Hp} {kvs:List (List Key×V)} {xs:List (List Key×Addr×Value)} (r:KT H kvs xs) (k:List Key) {y:V} {u:Value} (ry:RelV y u) :
 KT H (kvs.map fun kv=>if kv.1=k then (kv.1,y) else kv) (xs.map (putAt k u)):=by
 induction r with
 | nil=>exact .nil
 | @cons p q ps qs h t ih =>
  rw [t_,t_]
  refine .cons ?_ ih
  obtain ⟨h1,h2,h3⟩:=h
  unfold putAt
  by_cases e:p.1=k
  · rw [if_pos e,if_pos (h1.symm.trans e)]; exact ⟨h1,h2,ry⟩
  · rw [if_neg e,if_neg (fun z=>e (h1.trans z))]; exact ⟨h1,h2,h3⟩
theorem KT.put {H:Hp} {kvs:List (List Key×V)} {xs:List (List Key×Addr×Value)} (r:KT H kvs xs) (k:List Key) {b:Addr} {y:V} {u:Value} (hb:H b=some (.tup (k.map kV))) (ry:RelV y u) :
 KT H (lm kvs k y) (storedH xs k b u):=by
 have e:(kvs.any fun kv=>decide (kv.1=k))=(OQ xs k).isSome:=by
  rw [nO,(r.val k).isSome_eq,Option.isSome_map]
 unfold lm storedH
 rw [e]
 by_cases q:(OQ xs k).isSome=true
 · rw [if_pos q,if_pos q]; exact r.repl k ry
 · rw [if_neg q,if_neg q]; exact Paired.snoc r ⟨rfl,hb,ry⟩
theorem KT.keeps {H H':Hp} {kvs:List (List Key×V)} {xs:List (List Key×Addr×Value)} (r:KT H kvs xs) (ht:∀ b ys,H b=some (.tup ys)→H' b=some (.tup ys)):KT H' kvs xs :=
 Paired.mapP r fun _ _ z=>⟨z.1,ht _ _ z.2.1,z.2.2⟩
section
variable {P:Program} {w:x_} {H:Hp} {h:Heap} {a:Addr}
theorem Bl {u:HO} (ok:HOk P w H h) (e:Rd H a u):ObjOk P w H h a u:=e.ok ok
theorem yd {kvs:List (Key×V)} (ok:HOk P w H h) (e:Rd H a (.dK kvs)):kvs.length≤sizeLine∧(a == IF)=false∧∃ vs,KV kvs vs∧h.DictOf (bu P w) a vs :=
 show ObjOk P w H h a (.dK kvs) from Bl ok e
theorem Ew {kvs:List (Key×V)} (ok:HOk P w H h) (e:H a=some (.dK kvs)):kvs.length≤sizeLine∧(a == IF)=false∧∃ vs,KV kvs vs∧h.DictOf (bu P w) a vs:=yd ok (.inl e)
theorem c6 {ks:List Key} (ok:HOk P w H h) (e:H a=some (.tup (ks.map kV))):(Ma (bu P w)).is h ks a:=by
 obtain ⟨_,its,r,o,h1,h2,n,h3⟩:=(show ObjOk P w H h a (.tup (ks.map kV)) from ok a _ e)
 exact ⟨o,its.toArray,n,h1,h2,h3,by simpa using kL r⟩
theorem ye {kvs:List (List Key×V)} (ok:HOk P w H h) (e:Rd H a (.dT kvs)):kvs.length≤sizeLine∧(a == IF)=false ∧
 ∃ xs,KT H kvs xs∧h.DictOfH (Ma (bu P w)) a xs:=by
 obtain ⟨z,y,xs,r,o,es,ep,h1,h2,h3,h4,h5⟩:=(show ObjOk P w H h a (.dT kvs) from Bl ok e)
 refine ⟨z,y,xs,r,o,es,ep,h1,h2,h3,h4,fun x hx=>?_,h5⟩
 have all:∀ {l:List (List Key×V)} {m:List (List Key×Addr×Value)},KT H l m→∀ x∈m,(Ma (bu P w)).is h x.1 x.2.1:=by
  intro l m q
  induction q with
  | nil=>intro x hx; exact nomatch hx
  | @cons p q ps qs hq t ih =>
   intro x hx
   rcases p_.mp hx with e | hx
   · subst e
     exact c6 ok (by rw [← hq.1]; exact hq.2.1)
   · exact ih x hx
 exact all r x hx
theorem Bm {kvs:List (List Key×V)} (ok:HOk P w H h) (e:H a=some (.dT kvs)):kvs.length≤sizeLine∧(a == IF)=false ∧
 ∃ xs,KT H kvs xs∧h.DictOfH (Ma (bu P w)) a xs:=ye ok (.inl e)
end
def DGet (H:Hp) (a:Addr) (y:V) (r:Option V):Prop :=
 (∃ kvs k,Rd H a (.dK kvs)∧y=kV k∧r=jN kvs k)∨∃ kvs k b,Rd H a (.dT kvs)∧y=.ref b∧H b=some (.tup (k.map kV))∧r=jN kvs k
def DPut (H:Hp) (a:Addr) (y v:V) (H':Hp):Prop :=
 (∃ kvs k,H a=some (.dK kvs)∧y=kV k∧kvs.length < sizeLine∧H'=upd H a (.dK (lm kvs k v))) ∨
 ∃ kvs k b,H a=some (.dT kvs)∧y=.ref b∧H b=some (.tup (k.map kV))∧kvs.length < sizeLine∧H'=upd H a (.dT (lm kvs k v))
theorem DGet.k {H:Hp} {a:Addr} {kvs:List (Key×V)} {k:Key} (e:H a=some (.dK kvs)):DGet H a (kV k) (jN kvs k):=.inl ⟨kvs,k,.inl e,rfl,rfl⟩
theorem DGet.t {H:Hp} {a b:Addr} {kvs:List (List Key×V)} {k:List Key} (e:H a=some (.dT kvs)) (eb:H b=some (.tup (k.map kV))):DGet H a (.ref b) (jN kvs k):=.inr ⟨kvs,k,b,.inl e,rfl,eb,rfl⟩
theorem DPut.k {H:Hp} {a:Addr} {kvs:List (Key×V)} {k:Key} {v:V} (e:H a=some (.dK kvs)) (hl:kvs.length < sizeLine):DPut H a (kV k) v (upd H a (.dK (lm kvs k v))):=.inl ⟨kvs,k,e,rfl,hl,rfl⟩
theorem DPut.t {H:Hp} {a b:Addr} {kvs:List (List Key×V)} {k:List Key} {v:V} (e:H a=some (.dT kvs)) (eb:H b=some (.tup (k.map kV))) (hl:kvs.length < sizeLine) :
 DPut H a (.ref b) v (upd H a (.dT (lm kvs k v))):=.inr ⟨kvs,k,b,e,rfl,eb,hl,rfl⟩
section
variable {X:Cx} {pins:List (Addr×Obj)} {σ:St} {H:Hp} {s:c_} {a:Addr} {y v:V} {u r:Value} {o:Option V} {A:u_} {E:Value→c_→Prop}
theorem Inv.big (I:Inv X pins σ H s):IF < s.heap.objs.size:=by
 have h:w_ < s.heap.objs.size:=(I.mod.glob.keeps I.bk).lt
 exact Lo (by decide) h
theorem rm {h':Heap} {t':Nat} {ob:HO} (I:Inv X pins σ H s) (mu:Mut (H a)) (hs:Hl a s.heap h') (he:∃ q,h'.get? a=some q) (new:ObjOk X.prog X.w (upd H a ob) h' a ob) :
 Inv X pins σ (upd H a ob) { s with heap:=h',toks:=t' } :=
 I.write (x:=a) (e:=a) mu (.inl rfl) (fun b q hb z=>(hs.2 b hb).trans z) he new
theorem Bn {P:Program} {w:x_} {H':Hp} {h':Heap} {kvs:List (Key×V)} {vs:List (Key×Value)} (z:kvs.length≤sizeLine) (hd:(a == IF)=false) (rel:KV kvs vs) (dd:h'.DictOf (bu P w) a vs) :
 ObjOk P w H' h' a (.dK kvs):=⟨z,hd,vs,rel,dd⟩
theorem rn {H':Hp} {Q:Unit→c_→Prop} (hu:A.units + 1 < cLine) (I:Inv X pins σ H s) (g:DPut H a y v H') (ry:RelV y u) (rv:RelV v r) (h:∀ s',Inv X pins σ H' s'→Q () s') :
 m_ (pi X.prog X.w) A (setItem (.ref a) u r) Q E s:=by
 rcases g with ⟨kvs,k,e,ey,l,eH⟩ | ⟨kvs,k,b,e,ey,eb,l,eH⟩
 · subst ey eH
   obtain ⟨z,hd,vs,rel,dd⟩:=Ew I.hok e
   have hz:vs.length≤sizeLine:=by rw [← rel.length]; exact z
   have hl:(lm kvs k v).length≤sizeLine:=by have:=hW kvs k v; omega
   refine wpAny_setItem_pairs (hsz:=hz) (yc ry) dd fun h' dd' hs=>h _ ?_
   have he:∃ q,h'.get? a=some q:=let ⟨q,_,_,hq,_⟩:=dd'; ⟨q,hq⟩
   exact rm I (by rw [e]; exact IX) hs he (Bn hl hd (rel.put k rv) dd')
 · subst ey eH
   cases (show u=q_ b from ry)
   obtain ⟨z,hd,xs,rel,dd⟩:=Bm I.hok e
   have hz:xs.length≤sizeLine:=by rw [← L6 rel]; exact z
   have hl:(lm kvs k v).length≤sizeLine:=by have:=hW kvs k v; omega
   refine wpAny_setItem_heap (hsz:=hz) (tupleKind_room_in1 hu) (c6 I.hok eb) dd fun h' dd' hs=>h _ ?_
   obtain ⟨q,es,ep,hq,h2,h3,h4,_,h5⟩:=dd'
   refine rm I (by rw [e]; exact IX) hs ⟨q,hq⟩ ⟨hl,hd,_,(rel.put k eb rv).keeps fun c ys ec=>?_,q,es,ep,hq,h2,h3,h4,h5⟩
   rw [ao (CL ec e (fun z=>nomatch z))]
   exact ec
end
section
variable {X:Cx} {pins:List (Addr×Obj)} {σ:St} {H:Hp} {s:c_} {a:Addr} {kvs:List (Key×V)} {k:Key} {u:Value} {A:u_} {E:Value→c_→Prop}
end
def Ex (td ty tv:TE):TS:=fun D σ H=>tv σ H fun v H1=>td σ H1 fun x H2=>ty σ H2 fun y H3=>∃ a H4,x=.ref a∧DPut H3 a y v H4∧D.nx σ H4
section
variable {X:Cx} {o i e value:Expr} {pos pos' tpos:Pos} {td ty tv:TE}
theorem yf (hu:X.A.units + 1 < cLine) (ho:PE X o td) (hi:PE X i ty) (hv:PE X value tv) (hs:GW value (some (.Subscript o i pos')) pos.line X.env=pure false) :
 PS X (.Assign [.Subscript o i pos'] value pos) (Ex td ty tv):=by
 intro pins s σ H D I h
 refine wpAny_Assign_Subscript (thn (hv pins s σ H _ I h) fun r s1 ⟨v,H1,I1,rv,q1⟩=>thn (ho pins s1 σ H1 _ I1 q1) fun u s2 ⟨x,H2,I2,rx,q2⟩=>thn (hi pins s2 σ H2 _ I2 q2) fun iv s3 ⟨y,H3,I3,ry,a,H4,ex,g,q3⟩=>?_) hs
 subst ex
 obtain rfl:u=q_ a:=rx
 exact rn hu I3 g ry rv fun s4 I4=>⟨σ,H4,I4,q3⟩
end
theorem uJ {P:Program} {w:x_} {H:Hp} (h:Heap) (hb:IF < h.objs.size):ObjOk P w H (h.push { cls:=.type "dict",data:=.dict #[] }) h.objs.size (.dT []) :=
 ⟨GI _,beq_eq_false_iff_ne.mpr (Im (z_ hb)),[],.nil,_,#[],0,r_ _ rfl,⟨rfl,rfl,rfl⟩,rfl,rfl,List.nodup_nil⟩
def Bo:TE:=fun _ H Q=>∀ p,H p=none→Q (.ref p) (upd H p (.dT []))
section
variable {X:Cx} {pos:Pos}
theorem uK:PE X (.Dict [] [] pos) Bo:=fun pins s σ H Q I h =>
 wpAny_Dict_empty ⟨.ref s.heap.objs.size,_,I.laid (a:=s.heap.objs.size) (o:=.dT []) (t':=s.toks) (fun _ _ q=>f_ _ q) (l_ _) (uJ s.heap I.big),rfl,h _ (I.hok.fresh (l_ _))⟩
end
structure M1 (X:Cx) (o:Expr) (m:Str) (apos:Pos) (e:Expr) (cpos:Pos):Prop where
 base:HV o m X.env (eval o X.env)=eval o X.env
 few:((GA cpos (e_ [e] X.env)).all (fun x=>!x.1) && (Ii cpos (Hc [] X.env)).all (fun x=>x.1.isSome)
  && decide (([e]:List Expr).length + ([]:List Ia).length + (if ([]:List Ia).isEmpty then 0 else 1) < 30))=true
 line:(apos.endLine == cpos.line)=true
 trees:GA cpos (e_ [e] X.env)=[(false,eval e X.env)]
structure M2 (X:Cx) (o:Expr) (m:Str) (apos:Pos) (e f:Expr) (cpos:Pos):Prop where
 base:HV o m X.env (eval o X.env)=eval o X.env
 few:((GA cpos (e_ [e,f] X.env)).all (fun x=>!x.1) && (Ii cpos (Hc [] X.env)).all (fun x=>x.1.isSome)
  && decide (([e,f]:List Expr).length + ([]:List Ia).length + (if ([]:List Ia).isEmpty then 0 else 1) < 30))=true
 line:(apos.endLine == cpos.line)=true
 trees:GA cpos (e_ [e,f] X.env)=[(false,eval e X.env),(false,eval f X.env)]
def IsD (H:Hp) (a:Addr):Prop:=(∃ kvs,Rd H a (.dK kvs))∨∃ kvs,Rd H a (.dT kvs)
theorem vY {X:Cx} {pins:List (Addr×Obj)} {σ:St} {H:Hp} {s:c_} {a:Addr} (I:Inv X pins σ H s) (d:IsD H a) :
 s.TypeIs (.ref a) "dict"∧(∀ b,q_ a=.ref b→∃ ob,s.heap.get? b=some ob∧ob.dict=none)∧(a == IF)=false:=by
 rcases d with ⟨kvs,e⟩ | ⟨kvs,e⟩
 · obtain ⟨_,hd,vs,_,dd⟩:=yd I.hok e
   refine ⟨dd.typeIs,fun b q=>?_,hd⟩
   cases q
   obtain ⟨ob,_,_,h1,h2,_⟩:=dd
   exact ⟨ob,h1,h2.2.1⟩
 · obtain ⟨_,hd,xs,_,dd⟩:=ye I.hok e
   refine ⟨dd.typeIs,fun b q=>?_,hd⟩
   cases q
   obtain ⟨ob,_,_,h1,h2,_⟩:=dd
   exact ⟨ob,h1,h2.2.1⟩
section
variable {X:Cx} {pins:List (Addr×Obj)} {σ:St} {H:Hp} {s:c_} {a:Addr} {y d:V} {u r:Value} {o:Option V} {A:u_} {E:Value→c_→Prop}
theorem Bp {Q:Value→c_→Prop} (hu:A.units + 1 < cLine) (I:Inv X pins σ H s) (g:DGet H a y o) (ry:RelV y u) (rd:RelV d r) (h:∀ w' s',Inv X pins σ H s'→RelV (o.getD d) w'→Q w' s') :
 m_ (pi X.prog X.w) A (call (.builtin "dict.get") [.ref a,u,r]) Q E s:=by
 rcases g with ⟨kvs,k,e,ey,l⟩ | ⟨kvs,k,b,e,ey,eb,l⟩
 · subst ey
   obtain ⟨z,hd,vs,rel,dd⟩:=yd I.hok e
   refine call_meetsIn KQ dd.typeIs MH (Mi _ _ _) (meets_dict_get_default (bu X.prog X.w) a (yc ry) hd r) ⟨_,dd.mapOf,h _ _ (I.tok _) ?_⟩
   rw [l]
   exact (rel.val k).getD rd
 · subst ey
   cases (show u=q_ b from ry)
   obtain ⟨z,hd,xs,rel,dd⟩:=ye I.hok e
   refine call_meetsIn KQ dd.typeIs MH (Mi _ _ _) (meetsH_dict_get_default (Ma (bu X.prog X.w)) a b hd r) ⟨tupleKind_room_in1 hu,k,xs,c6 I.hok eb,dd,h _ _ (I.tok _) ?_⟩
   rw [l]
   exact (rel.val k).getD rd
end
def Bq (td ty tx:TE):TE:=fun σ H Q=>td σ H fun x H1=>∃ a,x=.ref a∧IsD H1 a∧ty σ H1 fun y H2=>tx σ H2 fun z H3=>∃ o,DGet H3 a y o∧Q (o.getD z) H3
section
variable {X:Cx} {o e f:Expr} {apos cpos:Pos} {td ty tx:TE}
theorem uL (hu:X.A.units + 1 < cLine) (ho:PE X o td) (he:PE X e ty) (hf:PE X f tx) (m:M2 X o "get" apos e f cpos):PE X (.Call (.Attribute o "get" apos) [e,f] [] cpos) (Bq td ty tx):=by
 intro pins s σ H Q I h
 refine wpAny_Call_method m.base m.few m.line Mg KQ PySem.F.type_dict_get (thn (ho pins s σ H _ I h) fun u s1 ⟨x,H1,I1,rx,a,ex,d,q1⟩=>?_)
 subst ex
 obtain rfl:u=q_ a:=rx
 obtain ⟨t1,t2,_⟩:=vY I1 d
 refine ⟨t1,t2,?_⟩
 rw [m.trees]
 refine Ky rfl (K9 (Jb (thn (he pins s1 σ H1 _ I1 q1) fun iv s2 ⟨y,H2,I2,ry,q2⟩ =>
  Jb (thn (hf pins s2 σ H2 _ I2 q2) fun fv s3 ⟨z,H3,I3,rz,ov,g,q3⟩=>Kx ?_))))
 exact Bp hu I3 g ry rz fun w' s4 I4 rw'=>⟨_,H3,I4,rw',q3⟩
end
section
variable {X:Cx} {pins:List (Addr×Obj)} {σ:St} {H:Hp} {s:c_} {a:Addr} {y:V} {u:Value} {A:u_} {E:Value→c_→Prop}
end
end L2
namespace FD
open PySem PySem.Spec PyProof.Rows L2
abbrev Kv:=List (List Str×Dv)
def NoD (u:HO):Prop:=∀ kvs,u≠.dT kvs
section
variable {K:ck} {H H':Hp}
mutual
theorem Rep.off (k:∀ b u,NoD u→H b=some u→H' b=some u):∀ (d:Dv) (v:V),Rep K H d v→Rep K H' d v
 | .non,_,h=>h
 | .bl _,_,h=>h
 | .int _,_,h=>h
 | .str _,_,h=>h
 | .tup ds,v,h=>by
  obtain ⟨a,xs,r,h,q⟩:=h.tupE
  exact ⟨a,xs,r,k _ _ (fun _ z=>by cases z) h,Reps.off k ds xs q⟩
 | .lst ds,v,h=>by
  obtain ⟨a,xs,r,h,q⟩:=h.lstE
  exact ⟨a,xs,r,k _ _ (fun _ z=>by cases z) h,Reps.off k ds xs q⟩
 | .scr ns,v,h=>by
  obtain ⟨a,r,h⟩:∃ a,v=.ref a∧SqL K H a (ns.map V.int):=h
  refine ⟨a,r,?_⟩
  rcases h with (h | ⟨o,h⟩) | h
  · exact .inl (.inl (k _ _ (fun _ z=>by cases z) h))
  · exact .inl (.inr ⟨o,k _ _ (fun _ z=>by cases z) h⟩)
  · exact .inr h
 | .exn c,v,h=>by
  obtain ⟨a,o,u,C,r,h,q⟩:∃ a o u C,v=.ref a∧H a=some (.frz o u)∧o.cls=.ref C∧HW K w_ (xnm c)=some (some (.ref C)):=h
  exact ⟨a,o,u,C,r,k _ _ (fun _ z=>by cases z) h,q⟩
theorem Reps.off (k:∀ b u,NoD u→H b=some u→H' b=some u):∀ (ds:List Dv) (vs:List V),Reps K H ds vs→Reps K H' ds vs
 | [],_,h=>h
 | d :: ds,vs,h=>by
  obtain ⟨v,us,r,h,q⟩:∃ v us,vs=v :: us∧Rep K H d v∧Reps K H ds us:=h
  exact ⟨v,us,r,Rep.off k d v h,Reps.off k ds us q⟩
end
end
def kS (k:List Str):List Key:=k.map Mw
theorem ro {k j:List Str} (h:kS k=kS j):k=j:=(List.map_inj_right fun a b h=>Sum.inr.inj h).mp h
def vZ (kv:Kv) (k:List Str) (d:Dv):Kv:=if (kv.any fun p=>decide (p.1=k))=true then kv.map (fun p=>if p.1=k then (p.1,d) else p) else kv ++ [(k,d)]
def rq (kv:Kv) (k:List Str):Option Dv:=(kv.find? fun p=>decide (p.1=k)).map (·.2)
inductive KD (K:ck) (H:Hp):Kv→List (List Key×V)→Prop
 | nil:KD K H [] []
 | cons {k:List Str} {d:Dv} {v:V} {kv:Kv} {kvs:List (List Key×V)}:Rep K H d v→KD K H kv kvs→KD K H ((k,d) :: kv) ((kS k,v) :: kvs)
section
variable {K:ck} {H H':Hp}
theorem KD.mono (f:∀ d v,Rep K H d v→Rep K H' d v):∀ {kv:Kv} {kvs:List (List Key×V)},KD K H kv kvs→KD K H' kv kvs
 | _,_,.nil=>.nil
 | _,_,.cons r t=>.cons (f _ _ r) (KD.mono f t)
theorem KD.length:∀ {kv:Kv} {kvs:List (List Key×V)},KD K H kv kvs→kv.length=kvs.length
 | _,_,.nil=>rfl
 | _,_,.cons r t=>by rw [Gu,Gu,KD.length t]
theorem KD.any (k:List Str):∀ {kv:Kv} {kvs:List (List Key×V)},KD K H kv kvs→(kvs.any fun p=>decide (p.1=kS k))=kv.any fun p=>decide (p.1=k)
 | _,_,.nil=>rfl
 | _,_,.cons (k:=j) r t=>by
  rw [HH,HH,KD.any k t]
  congr 1
  show decide (kS j=kS k)=decide (j=k)
  rw [G2]
  simp only [decide_eq_true_eq]
  exact ⟨ro,fun h=>by rw [h]⟩
theorem KD.map {k:List Str} {d:Dv} {v:V} (r0:Rep K H d v):∀ {kv:Kv} {kvs:List (List Key×V)},KD K H kv kvs→KD K H (kv.map fun p=>if p.1=k then (p.1,d) else p) (kvs.map fun p=>if p.1=kS k then (p.1,v) else p)
 | _,_,.nil=>.nil
 | _,_,.cons (k:=j) r t=>by
  rw [t_,t_]
  by_cases h:j=k
  · subst h
    simp only [if_true]
    exact .cons r0 (KD.map r0 t)
  · have h2:¬ kS j=kS k:=fun z=>h (ro z)
    simp only [h,h2,if_false]
    exact .cons r (KD.map r0 t)
theorem KD.snoc {k:List Str} {d:Dv} {v:V} (r0:Rep K H d v):∀ {kv:Kv} {kvs:List (List Key×V)},KD K H kv kvs→KD K H (kv ++ [(k,d)]) (kvs ++ [(kS k,v)])
 | _,_,.nil=>.cons r0 .nil
 | _,_,.cons r t=>.cons r (KD.snoc r0 t)
theorem KD.put {k:List Str} {d:Dv} {v:V} (r0:Rep K H d v) {kv:Kv} {kvs:List (List Key×V)} (t:KD K H kv kvs):KD K H (vZ kv k d) (lm kvs (kS k) v):=by
 unfold vZ lm
 rw [t.any k]
 split
 · exact KD.map r0 t
 · exact KD.snoc r0 t
theorem KD.val (k:List Str):∀ {kv:Kv} {kvs:List (List Key×V)},KD K H kv kvs→(match rq kv k with | some d=>∃ v,jN kvs (kS k)=some v∧Rep K H d v | none=>jN kvs (kS k)=none)
 | _,_,.nil=>rfl
 | _,_,.cons (k:=j) (d:=d) (v:=v) (kv:=kv) (kvs:=kvs) r t=>by
  by_cases h:j=k
  · subst h
    have e1:rq ((j,d) :: kv) j=some d:=by simp [rq]
    have e2:jN ((kS j,v) :: kvs) (kS j)=some v:=gj rfl
    rw [e1]
    exact ⟨v,e2,r⟩
  · have e1:rq ((j,d) :: kv) k=rq kv k:=by simp [rq,Ig,h]
    have e2:jN ((kS j,v) :: kvs) (kS k)=jN kvs (kS k):=gk fun z=>h (ro z)
    rw [e1,e2]
    exact KD.val k t
end
def Off (a:Addr) (H H':Hp):Prop:=∀ b u,b≠a→H b=some u→H' b=some u
structure T1 (X:Cx) (i:Nat) (a:Addr) (H:Hp) (σ:L2.St) (ρ:Ev) (kv:Kv):Prop where
 ia:σ[i]?=some (some (.ref a))
 no:∀ d,ρ[i]?≠some (some d)
 env:Envs X.K H σ ρ
 dct:∃ kvs,H a=some (.dT kvs)∧KD X.K H kv kvs
section
variable {X:Cx} {i:Nat} {a:Addr} {H H':Hp} {σ:L2.St} {ρ:Ev} {kv:Kv}
theorem T1.mono (T:T1 X i a H σ ρ kv) (e:Same H H'):T1 X i a H' σ ρ kv:=by
 obtain ⟨kvs,h1,h2⟩:=T.dct
 exact ⟨T.ia,T.no,T.env.mono e,kvs,e _ _ h1,h2.mono fun d v r=>Rep.mono e d v r⟩
theorem T1.set (T:T1 X i a H σ ρ kv) {j:Nat} (hj:j≠i) {d:Dv} {v:V} (r:Rep X.K H d v):T1 X i a H (σ.set j (some v)) (ρ.set j (some d)) kv :=
 ⟨by rw [uk hj]; exact T.ia,fun d'=>by rw [uk hj]; exact T.no d',T.env.set r,T.dct⟩
theorem T1.put (T:T1 X i a H σ ρ kv) {k:List Str} {d:Dv} {v:V} {kvs:List (List Key×V)} (h1:H a=some (.dT kvs)) (h2:KD X.K H kv kvs) (r:Rep X.K H d v):T1 X i a (upd H a (.dT (lm kvs (kS k) v))) σ ρ (vZ kv k d):=by
 have k0:∀ b u,NoD u→H b=some u→upd H a (.dT (lm kvs (kS k) v)) b=some u:=fun b u hn q=>by
  have hb:b≠a:=fun z=>by rw [z,h1] at q; cases q; exact hn _ rfl
  rw [ao hb]; exact q
 refine ⟨T.ia,T.no,⟨T.env.len,fun j d' hj=>?_⟩,_,am,(h2.put r).mono fun d v r=>Rep.off k0 d v r⟩
 obtain ⟨v',q1,q2⟩:=T.env.at' j d' hj
 exact ⟨v',q1,Rep.off k0 _ _ q2⟩
end
def Ey:Dv→Option (List Str)
 | .tup ds=>aV ds
 | _=>none
theorem rA {K:ck} {H:Hp} {d:Dv} {k:List Str} {v:V} (h:Ey d=some k) (r:Rep K H d v):∃ b,v=.ref b∧H b=some (.tup ((kS k).map kV)):=by
 cases d <;> try (cases h; done)
 rename_i ds
 obtain ⟨a,xs,rfl,h1,h2⟩:=r.tupE
 refine ⟨a,rfl,?_⟩
 have e:∀ {ds:List Dv} {k:List Str} {xs:List V},aV ds=some k→Reps K H ds xs→xs=(kS k).map kV:=by
  intro ds
  induction ds with
  | nil =>
   intro k xs h r
   cases h
   exact (show xs=[] from r)
  | cons d ds ih =>
   intro k xs h r
   obtain ⟨v,us,rfl,rv,rs⟩:∃ v us,xs=v :: us∧Rep K H d v∧Reps K H ds us:=r
   cases d <;> try (cases h; done)
   rename_i z
   cases hs:aV ds with
   | none=>simp [aV,hs] at h
   | some ks =>
    simp [aV,hs] at h
    subst h
    cases (show v=.str z from rv)
    rw [ih hs rs]
    rfl
 rw [h1,e h h2]
abbrev FnV:=Ev→Kv→Option Dv
def tV (X:Cx) (i:Nat) (g:FnV):TE:=fun σ H Q=>∃ a ρ kv,T1 X i a H σ ρ kv∧∃ d,g ρ kv=some d∧∀ v H',Same H H'→Rep X.K H' d v→Q v H'
structure FV (X:Cx) (i:Nat) (e:Expr) (g:FnV):Prop where
 h:PE X e (tV X i g)
def vE (f:FnE):FnV:=fun ρ _=>match f ρ with
 | some (.ok d)=>some d
 | _=>none
def yg (fk fd:FnE):FnV:=fun ρ kv=>match fk ρ,fd ρ with
 | some (.ok k),some (.ok d)=>(match Ey k with
  | some k=>some ((rq kv k).getD d)
  | none=>none)
 | _,_=>none
def iV (F:List Dv→Option (Rs Dv)) (g:FnV) (f:FnE):FnV:=fun ρ kv=>match g ρ kv,f ρ with
 | some x,some (.ok y)=>(match F [x,y] with
  | some (.ok d)=>some d
  | _=>none)
 | _,_=>none
abbrev FnD:=Ev→Kv→Option (Ev×Kv)
def tDc (X:Cx) (i:Nat) (f:FnD):TS:=fun D σ H=>∃ a ρ kv,T1 X i a H σ ρ kv∧∃ ρ' kv',f ρ kv=some (ρ',kv')∧∀ σ' H',Off a H H'→T1 X i a H' σ' ρ' kv'→D.nx σ' H'
structure FDs (X:Cx) (i:Nat) (st:List Stmt) (f:FnD):Prop where
 h:PSs X st (tDc X i f)
structure uM (X:Cx) (i:Nat) (st:Stmt) (f:FnD):Prop where
 h:PS X st (tDc X i f)
def yh (fk:FnE) (g:FnV):FnD:=fun ρ kv=>match g ρ kv,fk ρ with
 | some d,some (.ok k)=>(match Ey k with
  | some k=>if kv.length < 100000 then some (ρ,vZ kv k d) else none
  | none=>none)
 | _,_=>none
def jC (j:Nat) (body:FnD):List Dv→FnD
 | [],ρ,kv=>some (ρ,kv)
 | d :: ds,ρ,kv=>match body (ρ.set j (some d)) kv with
  | some (ρ',kv')=>jC j body ds ρ' kv'
  | none=>none
def yi (j:Nat) (src:FnE) (body:FnD):FnD:=fun ρ kv=>match src ρ with
 | some (.ok (.tup ds))=>jC j body ds ρ kv
 | _=>none
theorem Off.refl (a:Addr) (H:Hp):Off a H H:=fun _ _ _ h=>h
theorem Off.trans {a:Addr} {H1 H2 H3:Hp} (p:Off a H1 H2) (q:Off a H2 H3):Off a H1 H3:=fun b u n h=>q b u n (p b u n h)
theorem Off.of {a:Addr} {H H':Hp} (e:Same H H'):Off a H H':=fun b u _ h=>e b u h
section
variable {X:Cx} {i:Nat} {e ke de:Expr} {fe fk fd:FnE} {g:FnV} {pos:Pos}
theorem Ez (he:FE X e fe):FV X i e (vE fe):=⟨fun pins s σ H Q I ⟨a,ρ,kv,T,d,hd,q⟩=>he.h pins s σ H Q I ⟨ρ,T.env,by
 unfold vE at hd
 split at hd
 · rename_i d' h
   cases hd
   rw [h]
   exact q
 · cases hd⟩⟩
theorem Br {x:Str} {xp apos cpos:Pos} (hu:X.A.units + 1 < cLine) (hx:PE X (.Name x xp) (vf i)) (hk:FE X ke fk) (hd:FE X de fd) (m:M2 X (.Name x xp) "get" apos ke de cpos) :
 FV X i (.Call (.Attribute (.Name x xp) "get" apos) [ke,de] [] cpos) (yg fk fd):=⟨fun pins s σ H Q I ⟨a,ρ,kv,T,d,hg,q⟩=>by
 refine uL hu hx hk.h hd.h m pins s σ H Q I ⟨.ref a,T.ia,a,rfl,?_⟩
 obtain ⟨kvs,h1,h2⟩:=T.dct
 refine ⟨.inr ⟨kvs,.inl h1⟩,ρ,T.env,?_⟩
 unfold yg at hg
 split at hg
 · rename_i k0 d0 e1 e2
   split at hg
   · rename_i k ek
     cases hg
     rw [e1]
     intro vk H1 s1 rk
     refine ⟨ρ,(T.mono s1).env,?_⟩
     rw [e2]
     intro vd H2 s2 rd
     obtain ⟨b,rfl,hb⟩:=rA ek (Rep.mono s2 _ _ rk)
     have T2:=T.mono (s1.trans s2)
     obtain ⟨kvs2,g1,g2⟩:=T2.dct
     refine ⟨jN kvs2 (kS k),DGet.t g1 hb,q _ H2 (s1.trans s2) ?_⟩
     have hv:=g2.val k
     cases hq:rq kv k with
     | none =>
      rw [hq] at hv
      rw [hv]
      exact rd
     | some d1 =>
      rw [hq] at hv
      obtain ⟨v1,e3,r3⟩:=hv
      rw [e3]
      exact r3
   · cases hg
 · cases hg⟩
theorem Bs {x:Str} {xp pos':Pos} {value:Expr} (hu:X.A.units + 1 < cLine) (hx:PE X (.Name x xp) (vf i)) (hk:FE X ke fk) (hv:FV X i value g) (hs:GW value (some (.Subscript (.Name x xp) ke pos')) pos.line X.env=pure false:=by kernel_rfl) :
 uM X i (.Assign [.Subscript (.Name x xp) ke pos'] value pos) (yh fk g):=⟨fun pins s σ H D I ⟨a,ρ,kv,T,ρ',kv',hf,q⟩=>by
 unfold yh at hf
 split at hf
 · rename_i d k0 e1 e2
   split at hf
   · rename_i k ek
     split at hf
     · rename_i hl
       cases hf
       refine yf hu hx hk.h hv.h hs pins s σ H D I ⟨a,ρ,kv,T,d,e1,fun v H1 s1 r1=>⟨.ref a,T.ia,ρ,(T.mono s1).env,?_⟩⟩
       rw [e2]
       intro vk H2 s2 rk
       obtain ⟨b,rfl,hb⟩:=rA ek rk
       have T2:=T.mono (s1.trans s2)
       obtain ⟨kvs2,g1,g2⟩:=T2.dct
       have hlen:kvs2.length < sizeLine:=by
        have:=g2.length
        have h2:=bg (n:=kvs2.length + 1) (by omega)
        omega
       refine ⟨a,_,rfl,DPut.t g1 hb hlen,q σ _ (fun b u hn h=>?_) (T2.put g1 g2 (Rep.mono s2 _ _ r1))⟩
       rw [ao hn]
       exact s2 _ _ (s1 _ _ h)
     · cases hf
   · cases hf
 · cases hf⟩
theorem yj {st:Stmt} {f:FnD} (h:uM X i st f):FDs X i [st] f:=⟨ls h.h⟩
theorem SqT.offD {K:ck} {a b:Addr} {H H':Hp} {xs:List V} {kvs:List (List Key×V)} (k:Off a H H') (ha:H a=some (.dT kvs)) (h:H b=some (.tup xs)):H' b=some (.tup xs) :=
 k b _ (fun z=>by rw [z,ha] at h; cases h) h
theorem Bt {y:Str} {py:Pos} {iter:Expr} {body:List Stmt} {src:FnE} {fb:FnD} (j:Nat) (hij:j≠i) (hp:Kk (pi X.prog X.w) X.A X.env X.xe) (hc:X.calm=true) (hi:FE X iter src) (hg:PG X (.Name y py) (pv j)) (hb:FDs X i body fb)
 (hs:∀ x,Gs iter X.env x=pure x:=by intro _; kernel_rfl):uM X i (.For (.Name y py) iter body [] pos) (yi j src fb):=⟨fun pins s σ H D I ⟨a,ρ,kv,T,ρ',kv',hf,q⟩=>by
 refine mF hp hc (ze hi.h) hg hb.h hs pins s σ H D I ⟨ρ,T.env,?_⟩
 unfold yi at hf
 split at hf
 · rename_i ds hd
   rw [hd]
   intro v H1 s1 r1
   obtain ⟨b,xs,rfl,h1,h2⟩:=r1.tupE
   refine ⟨b,rfl,⟨xs,SqT.of h1⟩,?_⟩
   have T1':=T.mono s1
   have hlen:ds.length=xs.length:=by
    have:=h2.length
    omega
   refine ⟨fun n m σ' H'=>m=ds.length - n∧n≤ds.length∧Off a H1 H'∧H' b=some (.tup xs)∧Reps X.K H' ds xs∧∃ ρ1 kv1,T1 X i a H' σ' ρ1 kv1∧jC j fb (ds.drop n) ρ1 kv1=some (ρ',kv'),⟨ds.length,by simp,GI _,Off.refl a H1,h1,h2,ρ,kv,T1',by simpa using hf⟩,?_⟩
   rintro n m σ' H' ⟨rfl,hn,of1,hb',hr',ρ1,kv1,Tn,hlo⟩
   by_cases hlt:n < ds.length
   · have hx:xs[n]?=some xs[n]:=n_ (by omega)
     have hdn:ds[n]?=some ds[n]:=n_ hlt
     refine .inr ⟨⟨xs,xs[n],SqT.of hb',hx⟩,fun σ2 H2=>Off a H1 H2∧H2 b=some (.tup xs)∧Reps X.K H2 ds xs∧∃ ρ2 kv2,T1 X i a H2 σ2 ρ2 kv2∧jC j fb (ds.drop (n + 1)) ρ2 kv2=some (ρ',kv'),fun σ2 H2 z=>⟨ds.length - (n + 1),by omega,rfl,hlt,z⟩,fun x H2 yl=>?_⟩
     obtain ⟨rfl,hyl⟩:=yl
     have ex:=hyl xs (SqT.of hb')
     rw [hx] at ex
     cases ex
     have rd:Rep X.K H2 ds[n] xs[n]:=FD.reps_at hr' n _ _ hdn hx
     rw [dc hdn] at hlo
     unfold jC at hlo
     split at hlo
     · rename_i ρ2 kv2 hbd
       refine ⟨a,_,kv1,Tn.set hij rd,ρ2,kv2,hbd,fun σ3 H3 of3 T3=>⟨of1.trans of3,?_,?_,ρ2,kv2,T3,hlo⟩⟩
       · obtain ⟨kvs,g1,_⟩:=Tn.dct
         exact SqT.offD (K:=X.K) of3 g1 hb'
       · obtain ⟨kvs,g1,_⟩:=Tn.dct
         exact Reps.off (fun c u hn h=>of3 c u (fun z=>by rw [z,g1] at h; cases h; exact hn _ rfl) h) _ _ hr'
     · cases hlo
   · have hn':n=ds.length:=by omega
     subst hn'
     rw [JK] at hlo
     cases hlo
     exact .inl ⟨⟨xs,SqT.of hb',by omega⟩,q σ' H' ((Off.of s1).trans of1) Tn⟩
 · cases hf⟩
theorem uN {x:Str} {p cpos:Pos} {e1 e2:Expr} {g1:FnV} {f2:FnE} {k':Nat} (k:Nat) (ps:List Str) (F:List Dv→Option (Rs Dv)) (h:Has X.prog X.w X.K X.mg X.base x k ps F) (hr:Room k' X.A) (hk:k≤k') (hg:Gl X x) (h1:FV X i e1 g1) (h2:FE X e2 f2) (hn:ps.length=2:=by kernel_rfl) (hdb:(x == ("__debug__":Str))=false:=by kernel_rfl)
 (he:e_ [e1,e2] X.env=(false,eval e1 X.env) :: e_ [e2] X.env:=by kernel_rfl) (he2:e_ [e2] X.env=(false,eval e2 X.env) :: e_ [] X.env:=by kernel_rfl) (hpl:(GA cpos (e_ [e2] X.env)).any (·.1)=false:=by kernel_rfl) :
 FV X i (.Call (.Name x p) [e1,e2] [] cpos) (iV F g1 f2):=by
 obtain ⟨f,fd,G,hm,hkp,hb⟩:=h
 refine ⟨fun pins s σ H Q I ⟨a,ρ,kv,T,d,hd,q⟩=>?_⟩
 unfold iV at hd
 split at hd
 · rename_i d1 d2 q1 q2
   split at hd
   · rename_i d' hF
     cases hd
     refine lz (G.mono hk) hr hg hm hkp hb .nil zw (cU h1.h (cU h2.h jP he2) he) hdb he hpl pins s σ H Q I ⟨a,ρ,kv,T,d1,q1,fun v1 H1 s1 r1=>⟨ρ,(T.mono s1).env,?_⟩⟩
     rw [q2]
     intro v2 H2 s2 r2
     refine ⟨[d1,d2],⟨v1,[v2],rfl,Rep.mono s2 _ _ r1,v2,[],rfl,r2,rfl⟩,hn.symm,?_⟩
     rw [hF]
     exact fun v H' s3 r3=>q v H' ((s1.trans s2).trans s3) r3
   · cases hd
 · cases hd
def rB (i:Nat) (f g:FnD) (rest:Ev→Kv→Option Fl):FnS:=fun ρ=>match f (ρ.set i none) [] with
 | some (ρ1,kv1)=>(match g ρ1 kv1 with
  | some (ρ2,kv2)=>rest ρ2 kv2
  | none=>none)
 | none=>none
def tR (X:Cx) (i:Nat) (r:Ev→Kv→Option Fl):TS:=fun D σ H=>∃ a ρ kv H0,T1 X i a H σ ρ kv∧Same H0 H∧H0 a=none∧OutS X H0 (r ρ kv) D
structure FR (X:Cx) (i:Nat) (sts:List Stmt) (r:Ev→Kv→Option Fl):Prop where
 h:PSs X sts (tR X i r)
theorem uO {x:Str} {xp dp:Pos} {s1 s2:Stmt} {sts:List Stmt} {f1 f2:FnD} {r:Ev→Kv→Option Fl} (hN:X.N.Nodup) (hi:X.N[i]?=some x) (hx:Loc X.env.scope x) (h1:uM X i s1 f1) (h2:uM X i s2 f2) (hr:FR X i sts r)
 (hs:GW (.Dict [] [] dp) (some (.Name x xp)) pos.line X.env=pure false:=by kernel_rfl) (hf:X.fn x=true∨X.env.scope.names.lookup x=some .local:=by first | exact .inl rfl | exact .inr rfl | assumption) :
 FSs X (.Assign [.Name x xp] (.Dict [] [] dp) pos :: s1 :: s2 :: sts) (rB i f1 f2 r):=⟨fun pins s σ H D I ⟨ρ,E,o⟩=>by
 refine cR (ip (i:=i) hN hi hx uK hs hf) (cR h1.h (cR h2.h hr.h)) pins s σ H D I fun p hp=>?_
 have hil:i < σ.length:=by rw [I.len]; exact (xy.mp hi).1
 have s0:Same H (upd H p (.dT [])):=au hp _
 have T0:T1 X i p (upd H p (.dT [])) (σ.set i (some (.ref p))) (ρ.set i none) []:=by
  have E1:=(E.mono s0).fgt1 i
  refine ⟨B_ hil,fun d=>?_,⟨by rw [GQ]; exact E1.len,fun j d hj=>?_⟩,[],am,.nil⟩
  · by_cases hl:i < ρ.length
    · rw [B_ hl]; exact fun z=>by cases z
    · rw [GE (by rw [GQ]; omega)]; exact fun z=>by cases z
  · have hij:i≠j:=fun z=>by
     subst z
     by_cases hl:i < ρ.length
     · rw [B_ hl] at hj; cases hj
     · rw [GE (by rw [GQ]; omega)] at hj; cases hj
    obtain ⟨v,q1,q2⟩:=E1.at' j d hj
    exact ⟨v,by rw [uk hij]; exact q1,q2⟩
 unfold rB at o
 split at o
 · rename_i ρ1 kv1 e1
   split at o
   · rename_i ρ2 kv2 e2
     refine ⟨p,_,[],T0,ρ1,kv1,e1,fun σ1 H1 of1 T1'=>⟨p,ρ1,kv1,T1',ρ2,kv2,e2,fun σ2 H2 of2 T2'=>⟨p,ρ2,kv2,H,T2',fun b u hb=>?_,hp,o⟩⟩⟩
     have hbp:b≠p:=fun z=>by rw [z,hp] at hb; cases hb
     exact of2 b u hbp (of1 b u hbp (s0 b u hb))
   · exact o.elim
 · exact o.elim⟩
end
end FD
namespace FD
open PySem PySem.Spec PyProof.Rows L2 TS
section
variable {prog:Program} {w:x_} {A:u_} {E:Value→c_→Prop} {s:c_} {v d it:Addr} {es:Array DictEntry} {ep i:Nat} {o:Obj}
theorem rD {Q:Value→c_→Prop} (hv:s.heap.IsValuesView v d) (ho:s.heap.get? d=some o) (hd:o.data=.dict es ep)
 (hQ:Q (.ref s.heap.objs.size) { s with heap:=s.heap.push { cls:=.type "dict_valueiterator",data:=.fields #[.ref d,.int 0 0,.int es.size 0,.int ep 0] } }):m_ (pi prog w) A (pyIter (.ref v)) Q E s:=by
 obtain ⟨ov,g1,g2,g3⟩:=id hv
 refine wpAny_pyIter_slot hv.typeIs K8 (G9 K8 hv.typeIs PySem.F.entry_dict_values_iter ?_ (PySem.F.args_dict_values_iter_1 _))
 unfold K3.«dict_values.__iter__»; refine b_ (d_ (b_ ?_))
 unfold O0; refine b_ (Hs g1 g3 (x:=.ref d) rfl (d_ (b_ ?_)))
 unfold On; refine b_ (LO ho hd (b_ (MQ ho hd ?_)))
 simp only [show Jf "dict_valueiterator"=false by decide,i_,if_false]
 refine G5 (d_ ⟨_,rfl,"dict_valueiterator",_,⟨_,r_ _ rfl,rfl⟩,GZ.lookup,?_⟩)
 simpa [KU] using hQ
theorem rE {x:Value} {Q:Option Value→c_→Prop} (hit:s.heap.IsValIter it d i es.size ep) (hod:s.heap.get? d=some o) (hdd:o.data=.dict es ep) (hx:(es[i]?).map (·.val)=some x)
 (hQ:∀ h',h'.IsValIter it d (i + 1) es.size ep→Hl it s.heap h'→Q (some x) { s with heap:=h' }):m_ (pi prog w) A (Lb (.ref it)) Q E s:=by
 obtain ⟨oi,ho,hc,hd⟩:=id hit
 unfold Lb; refine b_ (IE (G3 (name:=a_ "__next__") hit.typeIs GZ (G9 GZ hit.typeIs JF ?_ (JA _))))
 refine b_ (d_ (b_ (b_ ?_)))
 first | refine b_ (HZ hit.typeIs (d_ (b_ (Ls ho hd ?_)))) | refine b_ (ID hit.typeIs (d_ (b_ (Ls ho hd ?_))))
 have hown:Jf "dict_valueiterator"=false:=by decide +kernel
 simp only [hown,if_false,i_]
 show m_ _ _ (if (q_ d == .none)=true then _ else _) _ _ s; rw [if_neg (show ¬ ((q_ d == .none)=true) from nofun)]
 refine b_ (d_ (b_ (LO hod hdd ?_))); rw [if_neg (by simp)]
 refine b_ (d_ (b_ (MQ hod hdd ?_))); rw [if_neg (by simp)]; refine d_ ?_
 obtain ⟨e0,he,rfl⟩:=Gq.mp hx
 simp only [if_false,show ¬ ((i:Int) < 0) from by omega,KM,he]; refine b_ ?_
 first | refine b_ (HZ hit.typeIs (d_ (b_ (Jl hit.typeIs ?_)))) | refine b_ (ID hit.typeIs (d_ (b_ (Jl hit.typeIs ?_))))
 show m_ _ _ (OJ (.ref it) 1 (KU ((i:Int) + 1)) >>= _) _ _ s; refine b_ (Lp ho hd (by simp) ?_)
 have hi2:(s.heap.update it (NA (·.setIfInBounds 1 (KU ((i:Int) + 1))))).IsValIter it d (i + 1) es.size ep:=⟨_,KP _ ho (MV (Kb hd _)),(N5 ..).trans hc,by rw [Kb hd]; simp [KU]⟩
 refine b_ (GV (b_ (Jl (s:={ s with heap:=s.heap.update it (NA (·.setIfInBounds 1 (KU ((i:Int) + 1)))) }) hi2.typeIs (b_ (Jl (s:={ s with heap:=s.heap.update it (NA (·.setIfInBounds 1 (KU ((i:Int) + 1)))) }) hi2.typeIs ?_)))))
 show m_ _ _ (pure e0.val) _ _ _
 exact d_ (d_ ⟨_,rfl,d_ (hQ _ hi2 (Ih ..))⟩)
theorem uP {Q:Option Value→c_→Prop} (hh:A.handled=none) (hit:s.heap.IsValIter it d i es.size ep) (hod:s.heap.get? d=some o) (hdd:o.data=.dict es ep) (hx:es.size≤i)
 (hQ:∀ h',Oy it s.heap h'→Q none { s with heap:=h' }):m_ (pi prog w) A (Lb (.ref it)) Q E s:=by
 obtain ⟨oi,ho,hc,hd⟩:=id hit
 unfold Lb; refine b_ (IE (G3 (name:=a_ "__next__") hit.typeIs GZ (G9 GZ hit.typeIs JF ?_ (JA _))))
 refine b_ (d_ (b_ (b_ ?_)))
 first | refine b_ (HZ hit.typeIs (d_ (b_ (Ls ho hd ?_)))) | refine b_ (ID hit.typeIs (d_ (b_ (Ls ho hd ?_))))
 have hown:Jf "dict_valueiterator"=false:=by decide +kernel
 simp only [hown,if_false,i_]
 show m_ _ _ (if (q_ d == .none)=true then _ else _) _ _ s; rw [if_neg (show ¬ ((q_ d == .none)=true) from nofun)]
 refine b_ (d_ (b_ (LO hod hdd ?_))); rw [if_neg (by simp)]
 refine b_ (d_ (b_ (MQ hod hdd ?_))); rw [if_neg (by simp)]; refine d_ ?_
 simp only [if_false,show ¬ ((i:Int) < 0) from by omega,KM,Array.getElem?_eq_none hx]; refine b_ ?_
 first | refine b_ (HZ hit.typeIs (d_ ?_)) | refine b_ (ID hit.typeIs (d_ ?_))
 show m_ _ _ (OJ (.ref it) 0 .none >>= _) _ _ s; refine b_ (Lp ho hd (by simp) ?_)
 show m_ _ _ (newExc (.type "StopIteration") [] >>= _) _ _ _; refine b_ ?_
 simp only [newTuple,newExc]; refine b_ (G5 ?_ (by size_fits))
 refine b_ (m:=Lv _ _) (wpAny_of_eq (a:=GH) (by first | (simp only [Lv]; rfl) | rfl) (G5 ?_ (by size_fits)))
 simp only [raiseNew]; refine b_ (wpAny_handled ?_); rw [show A.in1.handled=none from hh]
 refine b_ (d_ (wpAny_throw ?_)); refine b_ (wpAny_isInstance (T:="StopIteration") (b:=true) ⟨_,r_ _ rfl,rfl⟩ isSubtype_stop ?_)
 exact d_ (hQ _ (((Ih ..).extBut.push _).push _))
theorem rF (hh:A.handled=none) (I d:Addr) (hne:d≠I) (es:Array DictEntry) (ep:Nat) :
 Walks prog w A I [I,d] [I] es.size (fun i v=>(es[i]?).map (·.val)=some v) (fun i h=>h.IsValIter I d i es.size ep∧∃ o,h.get? d=some o∧o.data=.dict es ep) where
 sub:=fun b hb=>by simp at hb; simp [hb]
 frame:=fun _ _ _ ⟨st,o,q1,q2⟩ hk=>⟨st.at fun o e=>hk I (by simp) o e,o,hk d (by simp) o q1,q2⟩
 item:=fun i s Q E hi ⟨st,o,q1,q2⟩ hQ=>by
  have hx:(es[i]?).map (·.val)=some es[i].val:=by simp [hi]
  refine rE st q1 q2 hx fun h' a b=>?_
  exact hQ _ h' s.toks hx ⟨a,o,b.extBut d o hne q1,q2⟩ fun b' o hb e=>b.extBut b' o (fun h=>hb (by simp [h])) e
 done:=fun s Q E ⟨st,o,q1,q2⟩ hQ=>uP hh st q1 q2 (l_ _) fun h' he'=>hQ h' s.toks fun b o hb e=>he' b o (fun h=>hb (by simp [h])) e
 self:=fun _ _ _ _ ⟨st,_⟩ hQ=>wpAny_pyIter_valiter st hQ
theorem uQ (r d:Addr) (es:Array DictEntry) (ep:Nat):PySem.W.KdlSrc prog w "dict_values" r d es.size (fun i v=>(es[i]?).map (·.val)=some v) (fun h=>h.IsValuesView r d∧∃ o,h.get? d=some o∧o.data=.dict es ep) where
 type:=fun _ hm=>hm.1.typeIs
 there:=fun _ ⟨⟨_,h1,_⟩,_,h2,_⟩=>⟨o_ h1,o_ h2⟩
 keep:=fun _ _ ⟨⟨o,ho,x⟩,o2,h2,y⟩ hk=>⟨⟨o,hk r (.inl rfl) o ho,x⟩,o2,hk d (.inr rfl) o2 h2,y⟩
 notList:=by decide
 notTuple:=by decide
 hint:=fun _ _ _ _ hm hq=>PySem.W.kdl_hint_values hm.1.typeIs hq
 iter:=fun _ _ hh ⟨hv,o,h2,y⟩=>⟨_,_,(fun _ _ hq=>rD hv h2 y hq),rF hh _ d (z_ (o_ h2)) es ep,⟨⟨_,r_ _ rfl,rfl,rfl⟩,o,f_ _ h2,y⟩⟩
theorem kM {r:Addr} {R:List Value→c_→Prop} (hh:A.handled=none) (hv:s.heap.IsValuesView r d) (ho:s.heap.get? d=some o) (hd:o.data=.dict es ep) (hn:es.size≤sizeLine) (hr:r + 1=s.heap.objs.size)
 (h:∀ h' tk,(∀ b o,s.heap.get? b=some o→h'.get? b=some o)→s.heap.objs.size≤h'.objs.size→R (es.toList.map (·.val)) { s with heap:=h',toks:=tk }):m_ (pi prog w) A (collect (.ref r)) R E s:=by
 refine PySem.W.kdu_collect (uQ r d es ep) hh ⟨hv,o,ho,hd⟩ hn fun h' tk acc up it=>?_
 have e:acc.toList=es.toList.map (·.val):=by
  apply KL
  intro j
  have hz:=it.1
  by_cases hj:j < acc.size
  · have:=it.2 j acc[j] (by simp [hj])
    simp only [Hu,E_]
    rw [this]
    simp [hj]
  · rw [GE (by simp; omega),GE (by simp; omega)]
 rw [e]
 refine h h' tk up ?_
 obtain ⟨ov,g1,_⟩:=hv
 exact hr ▸ Nat.succ_le_of_lt (o_ (up _ _ g1))
theorem rG {a:Addr} {Q:Value→c_→Prop} (hT:s.TypeIs (.ref a) "dict") (hd:(a == IF)=false)
 (h:Q (.ref s.heap.objs.size) { s with heap:=s.heap.push { cls:=.type "dict_values",data:=.fields #[.ref a] } }):m_ (pi prog w) A (call (.builtin "dict.values") [.ref a]) Q E s:=by
 refine G9 L7 hT PySem.F.entry_dict_values ?_ (PySem.F.args_dict_values_1 _)
 refine b_ ?_; unfold Builtin.Dict.noArgs; refine b_ (wpAny_notOrdered_dict hT ?_)
 show m_ _ _ (pure a) _ _ s; refine d_ ?_
 show m_ _ _ (MW a >>= _) _ _ s; unfold MW; rw [if_neg (by rw [hd]; exact nofun)]
 exact b_ (d_ (b_ (G5 (d_ ⟨_,rfl,h⟩))))
end
structure M0 (X:Cx) (o:Expr) (m:Str) (apos cpos:Pos):Prop where
 base:HV o m X.env (eval o X.env)=eval o X.env
 few:((GA cpos (e_ [] X.env)).all (fun x=>!x.1) && (Ii cpos (Hc [] X.env)).all (fun x=>x.1.isSome)
  && decide (([]:List Expr).length + ([]:List Ia).length + (if ([]:List Ia).isEmpty then 0 else 1) < 30))=true
 line:(apos.endLine == cpos.line)=true
 trees:GA cpos (e_ [] X.env)=[]
def iW (F:List Dv→Option (Rs Dv)):FnV:=fun _ kv=>match nI F (kv.map (·.2)) with
 | some (.ok d)=>some d
 | _=>none
theorem KD.reps {K:ck} {H:Hp}:∀ {kv:Kv} {kvs:List (List Key×V)},KD K H kv kvs→Reps K H (kv.map (·.2)) (kvs.map (·.2))
 | _,_,.nil=>rfl
 | _,_,.cons r t=>⟨_,_,rfl,r,KD.reps t⟩
theorem yk {H:Hp} {kvs:List (List Key×V)} {xs:List (List Key×Addr×Value)} (r:KT H kvs xs):Vals (kvs.map (·.2)) (xs.map (·.2.2)):=by
 induction r with
 | nil=>exact .nil
 | cons h _ ih=>exact .cons h.2.2 ih
section
variable {X:Cx} {i:Nat} {k':Nat} {x f:Str} {xp apos cpos p p2 kp pos:Pos}
theorem uR (k:Nat) (ps:List Str) (F:List Dv→Option (Rs Dv)) (h:Has X.prog X.w X.K X.mg X.base f k ps F) (hr:Room k' X.A) (hk:k + 2≤k') (h1:ps.length=1) (hg:Gl X "sorted") (hm:X.mg "sorted"=none) (hgx:Gl X f) (hx:PE X (.Name x xp) (vf i)) (m:M0 X (.Name x xp) "values" apos cpos)
 (hdb:(f == ("__debug__":Str))=false:=by kernel_rfl)
 (he:GA pos (e_ [.Call (.Attribute (.Name x xp) "values" apos) [] [] cpos] X.env)=(false,eval (.Call (.Attribute (.Name x xp) "values" apos) [] [] cpos) X.env) :: GA pos (e_ [] X.env):=by kernel_rfl)
 (hplain:(GA pos (e_ [.Call (.Attribute (.Name x xp) "values" apos) [] [] cpos] X.env)).any (·.1)=false:=by kernel_rfl)
 (hnil:GA pos (e_ [] X.env)=[]:=by kernel_rfl)
 (hall:(Ii pos (Hc [⟨some "key",.Name f p2,kp⟩] X.env)).all (·.1.isSome)=true:=by kernel_rfl)
 (hkw:(Ii pos (Hc [⟨some "key",.Name f p2,kp⟩] X.env)).any (·.1.isNone)=false:=by kernel_rfl)
 (hnm:(Ii pos (Hc [⟨some "key",.Name f p2,kp⟩] X.env)).filterMap (·.1)=[a_ "key"]:=by kernel_rfl) :
 FV X i (.Call (.Name "sorted" p) [.Call (.Attribute (.Name x xp) "values" apos) [] [] cpos] [⟨some "key",.Name f p2,kp⟩] pos) (iW F):=⟨fun pins s σ H Q I ⟨a,ρ,kv,T,d,hd,q⟩=>by
 obtain ⟨fa,fd,G,hmx,hkp,hb⟩:=h
 refine HS (eG I hg hm (u:=.builtin "sorted") (by decide +kernel) ?_ (by decide) (by decide))
 refine callWith_kw ?_ he hplain hall hkw
 rw [he,hnil]
 refine Jb ?_
 refine wpAny_Call_method m.base m.few m.line Mg L7 PySem.F.type_dict_values (thn (hx pins s σ H (fun v H'=>v=.ref a∧H'=H) I ⟨.ref a,T.ia,rfl,rfl⟩) fun u s1 ⟨v,H1,I1,rx,e1,e2⟩=>?_)
 subst e1 e2
 obtain rfl:u=q_ a:=rx
 obtain ⟨kvs,g1,g2⟩:=T.dct
 obtain ⟨t1,t2,t3⟩:=vY I1 (.inr ⟨kvs,.inl g1⟩)
 refine ⟨t1,t2,?_⟩
 rw [m.trees]
 refine Ky rfl (PySem.evalArgs_none (rG t1 t3 (Kx ?_)))
 obtain ⟨hz,_,xs,kt,o,es,ep,ho,hex,hdat,hes,_⟩:=Bm I1.hok g1
 have I2:=I1.kept (t':=s1.toks) (h':=s1.heap.push { cls:=.type "dict_values",data:=.fields #[.ref a] }) fun b u q=>f_ _ q
 refine kws_cons (fm I2 hgx hmx (kws_nil ?_) hdb)
 rw [hnm]
 show m_ _ _ (call (.builtin "sorted") [.ref s1.heap.objs.size] [(a_ "key",.ref fa)]) _ _ _
 unfold iW nI at hd
 split at hd
 · rename_i d' hd'
   cases hd
   split at hd'
   · rename_i rows hrows
     split at hd'
     · rename_i hcond
       cases hd'
       have hsz:es.size=xs.length:=by have:=congrArg OA hes; simpa using this
       have hvs:es.toList.map (·.val)=xs.map (·.2.2):=by rw [hes,G7]; rfl
       have rr:=KD.reps g2
       refine uB (vs:=es.toList.map (·.val)) G (hr.mono hk) hb h1 I2 (fun Q' hQ=>kM (hr.hd) ⟨_,r_ _ rfl,rfl,rfl⟩ (f_ _ ho) hdat ?_ ?_ hQ) (by rw [hvs]; exact yk kt) rr hrows hcond.1 hcond.2.1 hcond.2.2 fun L ws' H' sm hL rw'=>q _ _ sm ⟨L,ws',rfl,hL,rw'⟩
       · rw [hsz]
         have:=L6 kt
         omega
       · rw [Hd]
     · cases hd'
   · cases hd'
 · cases hd⟩
def Bu (j:Nat) (g:FnV) (f:FnS):Ev→Kv→Option Fl:=fun ρ kv=>match g ρ kv with
 | some d=>f (ρ.set j (some d))
 | none=>none
theorem Bv {e:Expr} {g:FnV} {sts:List Stmt} {fs:FnS} (j:Nat) {y:Str} {pos':Pos} (hN:X.N.Nodup) (hj:X.N[j]?=some y) (hy:Loc X.env.scope y) (he:FV X i e g) (hr:FSs X sts fs) (hs:GW e (some (.Name y pos')) pos.line X.env=pure false:=by kernel_rfl) (hf:X.fn y=true∨X.env.scope.names.lookup y=some .local:=by first | exact .inl rfl | exact .inr rfl | assumption) :
 FR X i (.Assign [.Name y pos'] e pos :: sts) (Bu j g fs):=⟨fun pins s σ H D I ⟨a,ρ,kv,H0,T,sm,h0,o⟩=>by
 unfold Bu at o
 split at o
 · rename_i d hd
   exact cR (ip hN hj hy he.h hs hf) hr.h pins s σ H D I ⟨a,ρ,kv,T,d,hd,fun v H' s1 r=>⟨_,(T.env.mono s1).set r,OutS.mono (sm.trans s1) o⟩⟩
 · exact o.elim⟩
end
section
variable {X:Cx} {T:cF} {C:yS} {i j k':Nat} {x y f:Str} {xp dp py pos pos' apos cpos p p2 kp:Pos} {e ke de e1 e2 iter:Expr} {s1 s2:Stmt} {sts body:List Stmt} {fk fd src f2:FnE} {g g1:FnV} {fb d1 d2:FnD} {fs:FnS} {r:Ev→Kv→Option Fl} {F:List Dv→Option (Rs Dv)}
theorem rH (h1:uM X i s1 d1) (h2:uM X i s2 d2) (hr:FR X i sts r) (hN:ndB X.N=true:=by kernel_rfl) (hi:X.N[i]?=some x:=by kernel_rfl) (hx:dL X.env.scope x=true:=by kernel_rfl) (hf:X.fn x=true:=by kernel_rfl)
 (hs:GW (.Dict [] [] dp) (some (.Name x xp)) pos.line X.env=pure false:=by kernel_rfl):FSs X (.Assign [.Name x xp] (.Dict [] [] dp) pos :: s1 :: s2 :: sts) (rB i d1 d2 r):=uO (dt hN) hi (bT hx) h1 h2 hr hs (.inl hf)
theorem ym (hp:Kk (pi X.prog X.w) X.A X.env X.xe) (hi:FE X iter src) (hb:FDs X i body fb) (hij:JZ j i=false:=by kernel_rfl) (hc:X.calm=true:=by kernel_rfl) (hN:ndB X.N=true:=by kernel_rfl) (hx:X.N[j]?=some y:=by kernel_rfl) (hl:dL X.env.scope y=true:=by kernel_rfl) (hf:X.fn y=true:=by kernel_rfl)
 (hs:∀ x,Gs iter X.env x=pure x:=by intro _; kernel_rfl):uM X i (.For (.Name y py) iter body [] pos) (yi j src fb) :=
 Bt j (Hm hij) hp hc hi (cT (dt hN) hx (bT hl) (.inl hf)) hb hs
theorem yn (hu:X.A.units + 64 < cLine) (hk:FE X ke fk) (hv:FV X i e g) (hN:X.N[i]?=some x:=by kernel_rfl) (hx:dL X.env.scope x=true:=by kernel_rfl) (hd:(x == ("__debug__":Str))=false:=by kernel_rfl) (hcd:(x == ("__classdict__":Str))=false:=by kernel_rfl) (hs:GW e (some (.Subscript (.Name x xp) ke pos')) pos.line X.env=pure false:=by kernel_rfl) :
 uM X i (.Assign [.Subscript (.Name x xp) ke pos'] e pos) (yh fk g):=Bs (by omega) (jA hN hx hd hcd) hk hv hs
theorem yo (hu:X.A.units + 64 < cLine) (hk:FE X ke fk) (hd:FE X de fd) (hN:X.N[i]?=some x:=by kernel_rfl) (hx:dL X.env.scope x=true:=by kernel_rfl) (hdb:(x == ("__debug__":Str))=false:=by kernel_rfl) (hcd:(x == ("__classdict__":Str))=false:=by kernel_rfl) (m:M2 X (.Name x xp) "get" apos ke de cpos:=by exact ⟨by kernel_rfl,by kernel_rfl,by kernel_rfl,by kernel_rfl⟩) :
 FV X i (.Call (.Attribute (.Name x xp) "get" apos) [ke,de] [] cpos) (yg fk fd):=Br (by omega) (jA hN hx hdb hcd) hk hd m
theorem rJ (hT:HA X.prog X.w X.K X.mg X.base T) (hr:Room k' X.A) (hF:(T.lookup x).map (fun q=>q.2.2)=some F) (h1:FV X i e1 g1) (h2:FE X e2 f2) (hk:((T.lookup x).all fun q=>OI q.1 k' && JZ q.2.1.length 2)=true:=by kernel_rfl) (hg:X.env.kindOf x=some .globalImplicit:=by kernel_rfl) (hdb:(x == ("__debug__":Str))=false:=by kernel_rfl)
 (he:e_ [e1,e2] X.env=(false,eval e1 X.env) :: e_ [e2] X.env:=by kernel_rfl) (he2:e_ [e2] X.env=(false,eval e2 X.env) :: e_ [] X.env:=by kernel_rfl) (hpl:(GA cpos (e_ [e2] X.env)).any (·.1)=false:=by kernel_rfl) :
 FV X i (.Call (.Name x p) [e1,e2] [] cpos) (iV F g1 f2):=by
 cases hq:T.lookup x with
 | none=>rw [hq] at hF; cases hF
 | some q =>
  rw [hq] at hF hk
  cases hF
  rw [JY,g_] at hk
  exact uN q.1 q.2.1 q.2.2 (hT.h x q hq) hr (Io hk.1) hg h1 h2 (HR hk.2) hdb he he2 hpl
theorem rK (hT:HA X.prog X.w X.K X.mg X.base T) (hM:MA X.mg C) (hr:Room k' X.A) (hF:(T.lookup f).map (fun q=>q.2.2)=some F) (hk:((T.lookup f).all fun q=>OI (q.1 + 2) k' && JZ q.2.1.length 1)=true:=by kernel_rfl) (hg:X.env.kindOf (a_ "sorted")=some .globalImplicit:=by kernel_rfl) (hm:C.lookup (a_ "sorted")=some none:=by kernel_rfl) (hgx:X.env.kindOf f=some .globalImplicit:=by kernel_rfl)
 (hN:X.N[i]?=some x:=by kernel_rfl) (hx:dL X.env.scope x=true:=by kernel_rfl) (hd:(x == ("__debug__":Str))=false:=by kernel_rfl) (hcd:(x == ("__classdict__":Str))=false:=by kernel_rfl) (m:M0 X (.Name x xp) "values" apos cpos:=by exact ⟨by kernel_rfl,by kernel_rfl,by kernel_rfl,by kernel_rfl⟩) (hdb:(f == ("__debug__":Str))=false:=by kernel_rfl)
 (he:GA pos (e_ [.Call (.Attribute (.Name x xp) "values" apos) [] [] cpos] X.env)=(false,eval (.Call (.Attribute (.Name x xp) "values" apos) [] [] cpos) X.env) :: GA pos (e_ [] X.env):=by kernel_rfl)
 (hplain:(GA pos (e_ [.Call (.Attribute (.Name x xp) "values" apos) [] [] cpos] X.env)).any (·.1)=false:=by kernel_rfl) (hnil:GA pos (e_ [] X.env)=[]:=by kernel_rfl)
 (hall:(Ii pos (Hc [⟨some "key",.Name f p2,kp⟩] X.env)).all (·.1.isSome)=true:=by kernel_rfl)
 (hkw:(Ii pos (Hc [⟨some "key",.Name f p2,kp⟩] X.env)).any (·.1.isNone)=false:=by kernel_rfl)
 (hnm:(Ii pos (Hc [⟨some "key",.Name f p2,kp⟩] X.env)).filterMap (·.1)=[a_ "key"]:=by kernel_rfl) :
 FV X i (.Call (.Name "sorted" p) [.Call (.Attribute (.Name x xp) "values" apos) [] [] cpos] [⟨some "key",.Name f p2,kp⟩] pos) (iW F):=by
 cases hq:T.lookup f with
 | none=>rw [hq] at hF; cases hF
 | some q =>
  rw [hq] at hF hk
  cases hF
  rw [JY,g_] at hk
  exact uR q.1 q.2.1 q.2.2 (hT.h f q hq) hr (Io hk.1) (HR hk.2) hg (hM.no hm) hgx (jA hN hx hd hcd) m hdb he hplain hnil hall hkw hnm
theorem yp (he:FV X i e g) (hr:FSs X sts fs) (hN:ndB X.N=true:=by kernel_rfl) (hj:X.N[j]?=some y:=by kernel_rfl) (hy:dL X.env.scope y=true:=by kernel_rfl) (hf:X.fn y=true:=by kernel_rfl) (hs:GW e (some (.Name y pos')) pos.line X.env=pure false:=by kernel_rfl) :
 FR X i (.Assign [.Name y pos'] e pos :: sts) (Bu j g fs):=Bv j (dt hN) hj (bT hy) he hr hs (.inl hf)
end
end FD
namespace FD
open PySem PySem.Spec PyProof.Rows L2
theorem ei {i:Nat} {js:List Nat} {body:FnS} {ρ:Ev}:∀ {ds:List Dv},(∀ d∈ds,∃ ρ',body (ρ.set i (some d))=some (.nx ρ')∧fgt js ρ'=ρ)→∀ ρ0,fgt js ρ0=ρ→ik i js body ds ρ0=some (.nx ρ)
 | [],_,ρ0,e=>by unfold ik; rw [e]
 | d :: ds,h,ρ0,e=>by
  obtain ⟨ρ',h1,h2⟩:=h d j_
  unfold ik
  rw [e,h1]
  exact ei (fun d' hd=>h d' (k_ _ hd)) ρ' h2
theorem EC {c:FnB} {f g:FnS} {ρ:Ev} (h:c ρ=some (.ok true)):dI c f g ρ=f ρ:=by
 unfold dI; rw [h]; rfl
theorem el {α:Type} {p:α→Bool} {l:List α} (h:l.all p=true) {x:α} (hx:x∈l):p x=true:=Gv.mp h x hx
end FD
namespace G
open PySem PySem.Spec PyProof.Rows L2 FD
def top (i:Nat):Stmt:=PySem.Challenge.pw_notejar_k55_comparing.main.body.getD i (.Pass ⟨0,0,0,0⟩)
section
variable {X:Cx} {a b c o e:Expr} {es:List Expr} {fa fb fc fo:FnE} {ga:FnA} {pos p pt apos cpos:Pos}
theorem Bw (ha:FE X a fa) (hb:FE X b fb):FE X (.BinOp a .Add b pos) (f2 ii fa fb):=lB o_add zX ha hb
theorem Bx (ha:FE X a fa) (hb:FE X b fb):FE X (.BinOp a .Add b pos) (f2 bb fa fb):=lB At Au ha hb
theorem By (ha:FE X a fa) (hb:FE X b fb):FE X (.BinOp a .Sub b pos) (f2 zY fa fb):=lB zg Dr ha hb
theorem Bz (ha:FE X a fa) (hb:FE X b fb):FE X (.BinOp a .Mult b pos) (f2 fQ fa fb):=lB vj zZ ha hb
theorem BA (ha:FE X a fa) (hb:FE X b fb):FE X (.BinOp a .Mod b pos) (f2 eC fa fb):=lB zh Ds ha hb
theorem yq (ha:FE X a fa) (hb:FE X b fb):FE X (.BinOp a .FloorDiv b pos) (f2 eK fa fb):=lB wt z0 ha hb
theorem BB (ha:FE X a fa) (hb:FE X b fb):FE X (.BinOp a .Mult b pos) (f2 AI fa fb):=lB AK AM ha hb
theorem BC (hu:X.A.units + 64 < cLine) (ha:FE X a fa) (hb:FE X b fb) (hm:GJ .Eq b=false:=by kernel_rfl):FT X (.Compare a [.Eq] [b] pos) (fB (f2 eqX fa fb)):=fL (Ab hu) Ac ha hb hm
theorem BD (hu:X.A.units + 64 < cLine) (ha:FE X a fa) (hb:FE X b fb) (hm:GJ .NotEq b=false:=by kernel_rfl):FT X (.Compare a [.NotEq] [b] pos) (fB (f2 neX fa fb)):=fL (DD hu) DE ha hb hm
theorem BE (ha:FE X a fa) (hb:FE X b fb) (hm:GJ .Lt b=false:=by kernel_rfl):FT X (.Compare a [.Lt] [b] pos) (fB (f2 ltX fa fb)):=fL DF DG ha hb hm
theorem BF (ha:FE X a fa) (hb:FE X b fb) (hm:GJ .Gt b=false:=by kernel_rfl):FT X (.Compare a [.Gt] [b] pos) (fB (f2 gtD fa fb)):=fL C7 (Du _) ha hb hm
theorem yr (hu:X.A.units < cLine) (ha:FE X a fa) (hb:FE X b fb) (hm:GJ .Eq b=false:=by kernel_rfl):FT X (.Compare a [.Eq] [b] pos) (fB (f2 Cr fa fb)):=fL (DB hu) DC ha hb hm
theorem BG (hu:X.A.units + 64 < cLine) (ha:FE X a fa) (hb:FE X b fb) (hm:GJ .Gt b=false:=by kernel_rfl):FT X (.Compare a [.Gt] [b] pos) (fB (f2 gtT fa fb)):=fL (Et hu) Eu ha hb hm
theorem BH (hu:X.A.units + 64 < cLine) (ha:FE X a fa) (hb:FE X b fb) (hm:GJ .In b=false:=by kernel_rfl):FT X (.Compare a [.In] [b] pos) (fB (f2 inX fa fb)):=fL (DS hu) DT ha hb hm
theorem rL (hu:X.A.units + 64 < cLine) (ha:FE X a fa) (hb:FE X b fb) (hm:GJ .NotIn b=false:=by kernel_rfl):FT X (.Compare a [.NotIn] [b] pos) (fB (f2 bB fa fb)):=fL (ub hu) uc ha hb hm
theorem BI (hu:X.A.units + 64 < cLine) (ha:FE X a fa) (hb:FE X b fb) (hm:GJ .Eq b=false:=by kernel_rfl):FE X (.Compare a [.Eq] [b] pos) (f2 eqX fa fb):=jZ (Ab hu) Ac ha hb hm
theorem BJ (ha:FE X a fa) (hb:FE X b fb) (hm:GJ .LtE b=false:=by kernel_rfl):FE X (.Compare a [.LtE] [b] pos) (f2 leX fa fb):=jZ DZ D4 ha hb hm
theorem BK (ha:FE X a fa) (hb:FE X b fb) (hm:GJ .Is b=false:=by kernel_rfl):FE X (.Compare a [.Is] [b] pos) (f2 isN fa fb):=jZ zj Dw ha hb hm
theorem BL (ha:FE X a fa) (hb:FE X b fb) (hm:GJ .In b=false:=by kernel_rfl):FE X (.Compare a [.In] [b] pos) (f2 inD fa fb):=jZ o_in Fd ha hb hm
theorem rM (ha:FE X a fa) (hb:FE X b fb) (hm:GJ .NotIn b=false:=by kernel_rfl):FE X (.Compare a [.NotIn] [b] pos) (f2 j6 fa fb):=jZ o_notIn pZ ha hb hm
theorem BM (hm:X.mg "isinstance"=none) (hn:X.mg "int"=none) (ha:FE X a fa) (hg:X.env.kindOf (a_ "isinstance")=some .globalImplicit:=by kernel_rfl) (hg2:X.env.kindOf (a_ "int")=some .globalImplicit:=by kernel_rfl) (hs1:e_ [a,.Name (a_ "int") pt] X.env=(false,eval a X.env) :: e_ [.Name (a_ "int") pt] X.env:=by kernel_rfl) (hs2:e_ [.Name (a_ "int") pt] X.env=(false,eval (.Name (a_ "int") pt) X.env) :: e_ [] X.env:=by kernel_rfl) (hpl:(GA pos (e_ [.Name (a_ "int") pt] X.env)).any (·.1)=false:=by kernel_rfl):FE X (.Call (.Name "isinstance" p) [a,.Name (a_ "int") pt] [] pos) (f1 (jm qu) fa):=mS (T:="int") xx AC (by decide +kernel) (by kernel_rfl) hg hm hg2 hn ha hs1 hs2 hpl
theorem BN (hm:X.mg "isinstance"=none) (hn:X.mg "str"=none) (ha:FE X a fa) (hg:X.env.kindOf (a_ "isinstance")=some .globalImplicit:=by kernel_rfl) (hg2:X.env.kindOf (a_ "str")=some .globalImplicit:=by kernel_rfl) (hs1:e_ [a,.Name (a_ "str") pt] X.env=(false,eval a X.env) :: e_ [.Name (a_ "str") pt] X.env:=by kernel_rfl) (hs2:e_ [.Name (a_ "str") pt] X.env=(false,eval (.Name (a_ "str") pt) X.env) :: e_ [] X.env:=by kernel_rfl) (hpl:(GA pos (e_ [.Name (a_ "str") pt] X.env)).any (·.1)=false:=by kernel_rfl):FE X (.Call (.Name "isinstance" p) [a,.Name (a_ "str") pt] [] pos) (f1 (jm p0) fa):=mS (T:="str") wT z8 (by decide +kernel) (by kernel_rfl) hg hm hg2 hn ha hs1 hs2 hpl
theorem uS (hm:X.mg "isinstance"=none) (hn:X.mg "tuple"=none) (ha:FE X a fa) (hg:X.env.kindOf (a_ "isinstance")=some .globalImplicit:=by kernel_rfl) (hg2:X.env.kindOf (a_ "tuple")=some .globalImplicit:=by kernel_rfl) (hs1:e_ [a,.Name (a_ "tuple") pt] X.env=(false,eval a X.env) :: e_ [.Name (a_ "tuple") pt] X.env:=by kernel_rfl) (hs2:e_ [.Name (a_ "tuple") pt] X.env=(false,eval (.Name (a_ "tuple") pt) X.env) :: e_ [] X.env:=by kernel_rfl) (hpl:(GA pos (e_ [.Name (a_ "tuple") pt] X.env)).any (·.1)=false:=by kernel_rfl):FE X (.Call (.Name "isinstance" p) [a,.Name (a_ "tuple") pt] [] pos) (f1 (jm oA) fa):=mS (T:="tuple") wU tw (by decide +kernel) (by kernel_rfl) hg hm hg2 hn ha hs1 hs2 hpl
theorem yt (hm:X.mg "isinstance"=none) (hn:X.mg "bool"=none) (ha:FE X a fa) (hg:X.env.kindOf (a_ "isinstance")=some .globalImplicit:=by kernel_rfl) (hg2:X.env.kindOf (a_ "bool")=some .globalImplicit:=by kernel_rfl) (hs1:e_ [a,.Name (a_ "bool") pt] X.env=(false,eval a X.env) :: e_ [.Name (a_ "bool") pt] X.env:=by kernel_rfl) (hs2:e_ [.Name (a_ "bool") pt] X.env=(false,eval (.Name (a_ "bool") pt) X.env) :: e_ [] X.env:=by kernel_rfl) (hpl:(GA pos (e_ [.Name (a_ "bool") pt] X.env)).any (·.1)=false:=by kernel_rfl):FE X (.Call (.Name "isinstance" p) [a,.Name (a_ "bool") pt] [] pos) (f1 (jm fT) fa):=mS (T:="bool") tu wY (by decide +kernel) (by kernel_rfl) hg hm hg2 hn ha hs1 hs2 hpl
theorem jD (ho:FE X o fo) (ha:FA X (e :: es) ga) (h:SmL X o "startswith" e es apos cpos:=by exact ⟨by kernel_rfl,by kernel_rfl,by kernel_rfl,by kernel_rfl,by kernel_rfl⟩):FE X (.Call (.Attribute o "startswith" apos) (e :: es) [] cpos) (fM (wV Lx) fo ga):=x5 PySem.F.slot_str_startswith PySem.F.type_str_startswith Dz vA ho ha h
theorem lT (ho:FE X o fo) (ha:FA X (e :: es) ga) (h:SmL X o "endswith" e es apos cpos:=by exact ⟨by kernel_rfl,by kernel_rfl,by kernel_rfl,by kernel_rfl,by kernel_rfl⟩):FE X (.Call (.Attribute o "endswith" apos) (e :: es) [] cpos) (fM (wV N4) fo ga):=x5 PySem.F.slot_str_endswith PySem.F.type_str_endswith DA vA ho ha h
theorem uT (ho:FE X o fo) (ha:FA X (e :: es) ga) (h:SmL X o "split" e es apos cpos:=by exact ⟨by kernel_rfl,by kernel_rfl,by kernel_rfl,by kernel_rfl,by kernel_rfl⟩):FE X (.Call (.Attribute o "split" apos) (e :: es) [] cpos) (fM (mT) fo ga):=x5 Ko PySem.F.type_str_split tz wZ ho ha h
end
local macro_rules | `(tactic| walk_at "x")=>`(tactic| (first
 | with_reducible exact pQ
 | with_reducible refine lD ?_ ?_
 | with_reducible exact Dg _ (by kernel_rfl) (by kernel_rfl!)
 | with_reducible exact Dh _ (by kernel_rfl) (by kernel_rfl!)
 | with_reducible exact zB
 | with_reducible exact zF
 | with_reducible exact Di
 | with_reducible exact zE
 | with_reducible exact Eh (by with_unfolding_all assumption) (by kernel_rfl!)
 | with_reducible exact Ei (by with_unfolding_all assumption) (by kernel_rfl!)
 | with_reducible refine Bj ?_ ?_
 | with_reducible refine zQ ?_
 | with_reducible refine zP ?_
 | with_reducible refine uD (by with_unfolding_all assumption) (by with_unfolding_all assumption) (by kernel_rfl!) ?_
 | with_reducible refine rg (by with_unfolding_all assumption) (by with_unfolding_all assumption) (by kernel_rfl!) (by kernel_rfl) ?_
 | with_reducible refine rh (by with_unfolding_all assumption) (by with_unfolding_all (first | assumption | exact RoomM.of (by assumption) | exact ya (by assumption))) (by kernel_rfl!) ?_
 | with_reducible refine zK ?_
 | with_reducible refine zL ?_ ?_
 | with_reducible refine Dj ?_ ?_
 | with_reducible refine zM ?_
 | with_reducible refine z4 ?_
 | with_reducible refine Dk ?_ ?_ ?_
 | with_reducible refine Bw ?_ ?_
 | with_reducible refine Bx ?_ ?_
 | with_reducible refine By ?_ ?_
 | with_reducible refine Bz ?_ ?_
 | with_reducible refine BA ?_ ?_
 | with_reducible refine yq ?_ ?_
 | with_reducible refine BB ?_ ?_
 | with_reducible refine BC ?_ ?_ ?_
 | with_reducible refine BD ?_ ?_ ?_
 | with_reducible refine BE ?_ ?_
 | with_reducible refine BF ?_ ?_
 | with_reducible refine yr ?_ ?_ ?_
 | with_reducible refine BG ?_ ?_ ?_
 | with_reducible refine BH ?_ ?_ ?_
 | with_reducible refine rL ?_ ?_ ?_
 | with_reducible refine BI ?_ ?_ ?_
 | with_reducible refine BJ ?_ ?_
 | with_reducible refine BK ?_ ?_
 | with_reducible refine BL ?_ ?_
 | with_reducible refine rM ?_ ?_
 | with_reducible refine FW.ft (vt ?_ ?_)
 | with_reducible refine FW.ft (zI ?_ ?_)
 | with_reducible refine vt ?_ ?_
 | with_reducible refine zI ?_ ?_
 | with_reducible refine wH ?_
 | with_reducible refine zH ?_
 | with_reducible refine zJ ?_
 | with_reducible refine zG ?_
 | with_reducible refine xj ?_ ?_ ?_
 | with_reducible exact wQ
 | with_reducible refine wR ?_
 | with_reducible refine Ej ?_ ?_ ?_
 | with_reducible refine Ek ?_ ?_ ?_
 | with_reducible exact uE
 | with_reducible refine uF ?_
 | with_reducible intro _ _ _ _
 | with_reducible refine oN ?_ (by kernel_rfl) (glb (by kernel_rfl)) ?_ (glb (by kernel_rfl)) ?_ ?_
 | with_reducible refine uA ?_ (glb (by kernel_rfl)) ?_ ?_
 | with_reducible refine z6 (glb (by kernel_rfl)) ?_ ?_
 | with_reducible refine tE (glb (by kernel_rfl)) ?_ ?_
 | with_reducible refine xz (glb (by kernel_rfl)) ?_ ?_
 | with_reducible refine z7 (by kernel_rfl) (glb (by kernel_rfl)) ?_ ?_
 | with_reducible refine BM ?_ ?_ ?_
 | with_reducible refine BN ?_ ?_ ?_
 | with_reducible refine uS ?_ ?_ ?_
 | with_reducible refine yt ?_ ?_ ?_
 | with_reducible refine jD ?_ ?_
 | with_reducible refine lT ?_ ?_
 | with_reducible refine uT ?_ ?_
 | with_reducible refine tW ?_ ?_
 | with_reducible refine tH ?_ ?_
 | with_reducible refine An (T:="ValueError") (by with_unfolding_all exact XAllS.xtV (by assumption)) jq (by decide +kernel) (by kernel_rfl) (glb (by kernel_rfl)) ?_ (glb (by kernel_rfl)) ?_ ?_
 | with_reducible refine Am (by with_unfolding_all exact XAllS.xtO (by assumption) _ (by decide)) (by with_unfolding_all exact CA.c (by assumption) (by decide) rfl) (glb (by kernel_rfl)) (by kernel_rfl) (glb (by kernel_rfl)) ?_ ?_
 | with_reducible refine pU (glb (by kernel_rfl)) ?_ ?_
 | with_reducible refine pV (glb (by kernel_rfl)) ?_ ?_
 | with_reducible refine zU ?_
 | with_reducible refine xP (glb (by kernel_rfl)) ?_ ?_
 | with_reducible refine FI.toG ?_
 | with_reducible exact wI
 | with_reducible refine rH ?_ ?_ ?_
 | with_reducible refine lE ?_
 | with_reducible refine uG ?_ ?_
 | with_reducible refine sX ?_ ?_
 | with_reducible refine ym ?_ ?_ ?_
 | with_reducible refine yj ?_
 | with_reducible refine yn ?_ ?_ ?_
 | with_reducible refine yo ?_ ?_ ?_
 | with_reducible refine rJ (by with_unfolding_all assumption) (by with_unfolding_all assumption) (by kernel_rfl!) ?_ ?_
 | with_reducible refine rK (by with_unfolding_all assumption) (by with_unfolding_all assumption) (by with_unfolding_all assumption) (by kernel_rfl!)
 | with_reducible refine yp ?_ ?_
 | with_reducible refine Ez ?_
 | with_reducible refine pR ?_
 | with_reducible refine Dl ?_ ?_ ?_
 | with_reducible refine wJ ?_
 | with_reducible refine El ?_ ?_ ?_ (by kernel_rfl!)
 | with_reducible refine Eo ?_ ?_ ?_ (by kernel_rfl!)
 | with_reducible refine xX ?_
 | with_reducible refine xZ ?_ ?_ ?_
 | with_reducible refine tK _ (by with_unfolding_all exact XAllS.xc (by assumption) _ (by decide)) (by kernel_rfl) (by with_unfolding_all exact CA.c (by assumption) (by decide) rfl) (by kernel_rfl) (by kernel_rfl) (glb (by kernel_rfl)) ?_
 | with_reducible refine Ap _ _ _ (by kernel_rfl) (by kernel_rfl) (by kernel_rfl) (glb (by kernel_rfl)) (by with_unfolding_all exact CA.j (by assumption)) (by with_unfolding_all exact XAllS.exJ (by assumption)) (by with_unfolding_all exact CA.xk (by assumption)) (dt (by kernel_rfl)) (by kernel_rfl) (by kernel_rfl) (by kernel_rfl) ?_ ?_
 | with_reducible intro _ _
 | with_reducible exact xr
 | with_reducible refine xR ?_
 | with_reducible refine xt ?_
 | with_reducible refine ue ?_ ?_
 | with_reducible refine Az ?_
 | with_reducible refine Ay ?_ ?_ ?_
 | with_reducible refine DY (by kernel_rfl) ?_ ?_ ?_
 | with_reducible refine x4 ?_ (jA (by kernel_rfl) (by kernel_rfl) (by kernel_rfl) (by kernel_rfl))
 | with_reducible refine uI ?_
 | with_reducible refine Em ?_ ?_ ?_ (by kernel_rfl)
 | with_reducible refine xY ?_
 | with_reducible refine uH ?_ ?_ ?_
 | with_reducible refine x3 ?_ ?_ ?_
 | assumption
 | exact MA.no (by assumption) (by kernel_rfl)
 | exact Room.units (by assumption)
 | exact RoomM.units (by assumption)
 | exact Room.units0 (by assumption)
 | exact PassesOwn.never
 | exact PassesOwn.leaving) <;> walk_at "x")
local macro_rules | `(tactic| walk_at "b")=>`(tactic| (intros; (conv=>arg 2; whnf); walk_at "x"))
local macro_rules | `(tactic| walk_at "d")=>`(tactic| (intro _ _ _ _ _ _ us hl; rcases us with _ | ⟨_,_ | ⟨_,_ | ⟨_,_ | ⟨_,_ | ⟨_,_ | ⟨_,_ | ⟨_,_ | ⟨_,us⟩⟩⟩⟩⟩⟩⟩⟩ <;> first | rfl | cases hl))
def CC:yS:=[cN "ValueError",cN "all",cN "bool",cN "enumerate",cN "int",cN "isinstance",cN "len",cN "range",cN "set",cN "sorted",cN "str",cN "tuple",cS "FIGURES" "0123456789",cS "LABEL_SIGNS" "abcdefghijklmnopqrstuvwxyz0123456789-",cI "LAST_MOMENT" 9999,cI "LONGEST_LABEL" 8,cI "LONGEST_NOTE_NAME" 10,cI "LONGEST_PATH" 20,cI "LONGEST_WORTH" 12,cI "MOST_LABELS" 5,cI "MOST_NOTES" 20,cI "NOTE_ENDS" 5,cI "NOTE_EXACT" 3,cI "NOTE_HOUSE" 2,cI "NOTE_MADE" 8,cI "NOTE_NAME" 0,cS "NOTE_NAME_SIGNS" "abcdefghijklmnopqrstuvwxyzABCDEFGHIJKLMNOPQRSTUVWXYZ0123456789-_",cI "NOTE_PARTS" 10,cI "NOTE_PATH" 4,cI "NOTE_REACH" 7,cI "NOTE_SAFE" 6,cI "NOTE_USED" 9,cI "NOTE_WORTH" 1,cS "NO_WORTH_SIGNS" ";,=",cS "PATH_SIGNS" "abcdefghijklmnopqrstuvwxyz0123456789-_./"]
section
variable {P:Program} {w:x_} {K:ck} {mg:Str→Option Value} {base h:Heap} {f:Addr} {cls:Nat→Addr} {CJ:Addr} (XI:K.In h) (Gn:h.Ns w_ mg) (M:MA mg CC) (xa:XAllS K [5] cls CJ) (ca:CA K mg cls CJ [5] 6)
include XI Gn M xa ca
def T0:cF:=[]
def TE0:cF:=[]
def TM0:cF:=[]
def cf:FnS:=(bn (dI (fB (f2 Cr (ac 0) (dD ae))) (bh (f2 fQ (fC (.int 7)) (ac 1))) (fun ρ=>some (.nx ρ))) (bh (f2 ii (f2 ixD (ac 0) (f2 eC (ac 1) (fB1 fR (aa (ac 0) ae)))) (f2 fQ (fC (.int 6553)) (f2 eK (ac 1) (fB1 fR (aa (ac 0) ae)))))))
def bw:List Dv→Option (Rs Dv):=bV 2 cf
def T1:cF:=("_law_cell",1,["_law_script","_law_k"],bw) :: T0
theorem kN (A:Af K "_law_cell" (top 58) f) (t:HA P w K mg base T0):HA P w K mg base T1 :=
 aC (aP XI Gn ["_law_script","_law_k"] ["_law_script","_law_k"] cf A (by walk_at "d") (by delta cf; walk_at "b")) t
def bC:FnS:=(bn (c8 3 (f2 eC (f2 ii (f2 fQ (f2 eC (ah bw 2 (aa (ac 0) (aa (ac 1) ae))) (fC (.int 2147483563))) (fC (.int 69069))) (f2 fQ (fC (.int 104723)) (f2 ii (ac 1) (fC (.int 1))))) (fC (.int 2147483563)))) (bn (c8 3 (f2 eC (f2 ii (f2 fQ (ac 3) (ac 3)) (f2 eK (ac 3) (fC (.int 3)))) (fC (.int 2147483399)))) (bh (f2 eC (f2 eK (f2 eC (f2 ii (f2 fQ (ac 3) (ac 3)) (f2 eK (ac 3) (fC (.int 7)))) (fC (.int 2147483647))) (fC (.int 11))) (ac 2)))))
def ag:List Dv→Option (Rs Dv):=bV 4 bC
def T2:cF:=("_law_drawn",2,["_law_script","_law_k","_law_many"],ag) :: T1
theorem jE (A:Af K "_law_drawn" (top 59) f) (t:HA P w K mg base T1):HA P w K mg base T2 :=
 aC (aP XI Gn ["_law_script","_law_k","_law_many","_law_cell_here"] ["_law_script","_law_k","_law_many"] bC A (by walk_at "d") (by delta bC; walk_at "b")) t
def et:FnS:=(bn (c8 2 (dD (aa (fC (.str "a.b")) (aa (fC (.str "b")) (aa (fC (.str "x.a.b")) (aa (fC (.str "y.x.a.b")) (aa (fC (.str "c.uk")) (aa (fC (.str "uk")) (aa (fC (.str "d.c.uk")) (aa (fC (.str "e.d.c.uk")) ae)))))))))) (bn (c8 2 (f2 ii (ac 2) (dD (aa (fC (.str "w.ck")) (aa (fC (.str "v.w.ck")) (aa (fC (.str "ck")) (aa (fC (.str "g-1.a.b")) (aa (fC (.str "7.b")) (aa (fC (.str "p.q")) ae))))))))) (bh (f2 ixD (ac 2) (ah ag 3 (aa (ac 0) (aa (ac 1) (aa (fB1 fR (aa (ac 2) ae)) ae))))))))
def cg:List Dv→Option (Rs Dv):=bV 3 et
def T3:cF:=("_law_name",3,["_law_script","_law_at"],cg) :: T2
theorem kO (A:Af K "_law_name" (top 60) f) (t:HA P w K mg base T2):HA P w K mg base T3 :=
 aC (aP XI Gn ["_law_script","_law_at","_law_some"] ["_law_script","_law_at"] et A (by walk_at "d") (by delta et; walk_at "b")) t
def ez : FnS := (bn (c8 2 (dD (aa (fC (.str "/")) (aa (fC (.str "/x")) (aa (fC (.str "/x/")) (aa (fC (.str "/x/y")) (aa (fC (.str "/xy")) (aa (fC (.str "/x/y/z.q")) (aa (fC (.str "//")) (aa (fC (.str "/-_.9")) (aa (fC (.str "/x/y/")) ae))))))))))) (bh (f2 ixD (ac 2) (ah ag 3 (aa (ac 0) (aa (ac 1) (aa (fB1 fR (aa (ac 2) ae)) ae)))))))
def ci:List Dv→Option (Rs Dv):=bV 3 ez
def T4:cF:=("_law_path",3,["_law_script","_law_at"],ci) :: T3
theorem kP (A:Af K "_law_path" (top 61) f) (t:HA P w K mg base T3):HA P w K mg base T4 :=
 aC (aP XI Gn ["_law_script","_law_at","_law_some"] ["_law_script","_law_at"] ez A (by walk_at "d") (by delta ez; walk_at "b")) t
def aK:dJ:=(cD (cK 6 (f2 bb (f2 bb (ac 1) (fC (.int 1))) (f2 fQ (fC (.int 14)) (ac 5)))) (cD (cK 4 (f2 bb (ac 4) (ah ag 3 (aa (ac 0) (aa (ac 6) (aa (fC (.int 4)) ae)))))) (cD (cK 7 (f2 ixD (dD (aa (fC (.str "n")) (aa (fC (.str "m-1")) (aa (fC (.str "safe-a")) (aa (fC (.str "N_2")) ae))))) (ah ag 3 (aa (ac 0) (aa (f2 bb (ac 6) (fC (.int 1))) (aa (fC (.int 4)) ae)))))) (cD (cK 8 (f2 ixD (dD (aa (fC (.str "5")) (aa (fC (.str "")) (aa (fC (.str "a!b~")) ae)))) (ah ag 3 (aa (ac 0) (aa (f2 bb (ac 6) (fC (.int 2))) (aa (fC (.int 3)) ae)))))) (cD (cK 9 (f2 ixD (dD (aa (fC .non) (aa (ah ag 3 (aa (ac 0) (aa (f2 bb (ac 6) (fC (.int 7))) (aa (fC (.int 60)) ae)))) ae))) (ah ag 3 (aa (ac 0) (aa (f2 bb (ac 6) (fC (.int 6))) (aa (fC (.int 2)) ae)))))) (cD (cK 10 (f2 eqX (ah ag 3 (aa (ac 0) (aa (f2 bb (ac 6) (fC (.int 4))) (aa (fC (.int 2)) ae)))) (fC (.int 0)))) (cD (cK 11 (bc (aa (ac 7) (aa (ac 8) (aa (ah cg 2 (aa (ac 0) (aa (f2 bb (ac 6) (fC (.int 3))) ae))) (aa (ac 10) (aa (ah ci 2 (aa (ac 0) (aa (f2 bb (ac 6) (fC (.int 5))) ae))) ae))))))) (cD (cK 12 (f2 ixD (dD (aa (fC (.str "any")) (aa (fC (.str "any")) (aa (fC (.str "near")) ae)))) (ah ag 3 (aa (ac 0) (aa (f2 bb (ac 6) (fC (.int 9))) (aa (fC (.int 3)) ae)))))) (cD (cK 13 (f2 eqX (ah ag 3 (aa (ac 0) (aa (f2 bb (ac 6) (fC (.int 8))) (aa (fC (.int 2)) ae)))) (fC (.int 0)))) (cD (cK 14 (f2 bb (ac 4) (ah ag 3 (aa (ac 0) (aa (f2 bb (ac 6) (fC (.int 10))) (aa (fC (.int 5)) ae)))))) (cD (cK 15 (f2 bb (ac 11) (bc (aa (ac 9) (aa (ac 13) (aa (ac 12) (aa (ac 4) (aa (ac 14) ae)))))))) (ud 3 (fB (f2 eqX (aO [("_law_note",15)] (bj (ac 3)) (some (fB (f2 eqX (bc (aa (f2 ixD (ac 0) (fC (.int 0))) (aa (f2 ixD (ac 0) (fC (.int 2))) (aa (f2 ixD (ac 0) (fC (.int 4))) ae)))) (bc (aa (f2 ixD (ac 1) (fC (.int 0))) (aa (f2 ixD (ac 1) (fC (.int 2))) (aa (f2 ixD (ac 1) (fC (.int 4))) ae))))))) (ac 0)) (dD ae))) (lI (ac 15)) qt))))))))))))
def fD:FnS:=(sJ 3 ae (cD (cK 4 (fC (.int 0))) (cD (m8 5 [5,6,7,8,9,10,11,12,13,14,15] (fun ρ=>bnd ((aa (ah ag 3 (aa (ac 0) (aa (ac 1) (aa (f2 bb (ac 2) (fC (.int 1))) ae)))) ae) ρ) lF) aK) (vI 3 (fB1 dN (aa (ac 3) ae))))))
def aM:List Dv→Option (Rs Dv):=bV 16 fD
def T5:cF:=("_law_jar",4,["_law_script","_law_at","_law_many"],aM) :: T4
theorem lU (A:Af K "_law_jar" (top 62) f) (t:HA P w K mg base T4):HA P w K mg base T5 :=
 aC (aP XI Gn ["_law_script","_law_at","_law_many","_law_found","_law_now","_law_k","_law_here","_law_name_here","_law_worth","_law_ends","_law_exact","_law_head","_law_reach","_law_safe","_law_late","_law_note"] ["_law_script","_law_at","_law_many"] fD A (by walk_at "d") (by delta fD aK; walk_at "b")) t
def dH:FnS:=(bh (bc (aa (f2 ixD (ac 0) (fC (.int 0))) (aa (f2 ixD (ac 0) (fC (.int 2))) (aa (f2 ixD (ac 0) (fC (.int 4))) ae)))))
def ai:List Dv→Option (Rs Dv):=bV 1 dH
def T6:cF:=("_law_key",1,["_law_note"],ai) :: T5
theorem lV (A:Af K "_law_key" (top 63) f) (t:HA P w K mg base T5):HA P w K mg base T6 :=
 aC (aP XI Gn ["_law_note"] ["_law_note"] dH A (by walk_at "d") (by delta dH; walk_at "b")) t
def aE:dJ:=(cD (cK 6 (ah ag 3 (aa (ac 0) (aa (f2 bb (ac 1) (ac 4)) (aa (fC (.int 4)) ae))))) (cD (oIf (fB (f2 eqX (ac 6) (fC (.int 1)))) (cK 5 (f2 bb (dk (ac 5) dR (cH (fC (.int 9)))) (bc (aa (f2 bb (f2 ixD (ac 5) (fC (.int 9))) (fC (.int 1))) ae)))) qt) (oIf (fB (f2 gtD (ac 6) (fC (.int 0)))) (lI (ac 5)) qt)))
def aB:dJ:=(ud 3 (fB (f2 eqX (aO [("_law_note",5)] (bj (ac 3)) (some (fB (f2 eqX (ah ai 1 (aa (ac 0) ae)) (ah ai 1 (aa (ac 1) ae))))) (ac 0)) (dD ae))) (lI (f2 bb (f2 bb (f2 bb (dk (ac 5) dR (cH (fC (.int 5)))) (bc (aa (fC .non) ae))) (dk (ac 5) (cH (fC (.int 6))) (cH (fC (.int 8))))) (bc (aa (ac 7) (aa (f2 bb (ac 7) (fC (.int 2))) ae))))) qt)
def cj:FnS:=(sJ 3 ae (cD (oH 4 5 [4,6] (fun ρ=>bnd ((aa (ac 2) ae) ρ) oQ) aE) (cD (lS 3 7 (fIf (fB (f2 neX (ac 3) (dD ae))) (f2 ixD (f2 ixD (ac 3) (f1 vw (fC (.int 1)))) (fC (.int 8))) (fC (.int 0)))) (cD (m8 5 [5] (bj (ah aM 3 (aa (ac 0) (aa (f2 bb (ac 1) (fC (.int 40))) (aa (fC (.int 3)) ae))))) aB) (vI 3 (fB1 dN (aa (ac 3) ae)))))))
def cm:List Dv→Option (Rs Dv):=bV 8 cj
def T7:cF:=("_law_like",5,["_law_script","_law_at","_law_jar_here"],cm) :: T6
theorem kQ (A:Af K "_law_like" (top 64) f) (t:HA P w K mg base T6):HA P w K mg base T7 :=
 aC (aP XI Gn ["_law_script","_law_at","_law_jar_here","_law_found","_law_k","_law_note","_law_way","_law_last"] ["_law_script","_law_at","_law_jar_here"] cj A (by walk_at "d") (by delta cj aE aB; walk_at "b")) t
def aA:dJ:=(cD (cK 4 (aY 1 [("_law_note",3)] (bj (ac 1)) (gN 0) (some (fB (f2 eqX (ah ai 1 (aa (ac 0) ae)) (ah ai 1 (aa (ac 1) ae))))) (ac 0))) (cD (cK 5 (ac 3)) (cD (oIf (ow (fB (f2 neX (ac 4) (dD ae))) (fB (f2 gtT (bc (aa (f2 ixD (f2 ixD (ac 4) (fC (.int 0))) (fC (.int 9))) (aa (f2 ixD (f2 ixD (ac 4) (fC (.int 0))) (fC (.int 8))) ae))) (bc (aa (f2 ixD (ac 3) (fC (.int 9))) (aa (f2 ixD (ac 3) (fC (.int 8))) ae)))))) (cK 5 (f2 ixD (ac 4) (fC (.int 0)))) qt) (lI (bc (aa (f2 ixD (ac 5) (fC (.int 8))) (aa (ah ai 1 (aa (ac 5) ae)) (aa (ac 5) ae))))))))
def bJ:FnS:=(sJ 2 ae (cD (m8 3 [4,5] (bj (ac 0)) aA) (AV 2 (bn (c8 6 (aO [] (bj (ac 2)) none (f2 ixD (ac 0) (fC (.int 1))))) (bn (c8 2 (f2 bb (ac 2) (aO [("_law_keys",6)] (bj (ac 1)) (some (fB (f2 bB (ah ai 1 (aa (ac 0) ae)) (ac 1)))) (bc (aa (f2 ixD (ac 0) (fC (.int 8))) (aa (ah ai 1 (aa (ac 0) ae)) (aa (ac 0) ae))))))) (bn (c8 7 (fB1 eU (aa (aO [] (bj (ac 2)) none (dk (ac 0) dR (cH (fC (.int 2))))) ae))) (bh (fB1 dN (aa (aY 1 [("_law_rows",2)] (bj (ac 7)) (gN 0) none (f2 ixD (aO [("_law_head",0)] (bj (ac 1)) (some (fB (f2 eqX (dk (ac 0) dR (cH (fC (.int 2)))) (ac 1)))) (f2 ixD (ac 0) (fC (.int 2)))) (fC (.int 0)))) ae)))))))))
def bY:List Dv→Option (Rs Dv):=bV 8 bJ
def T8:cF:=("_law_merged",2,["_law_one","_law_other"],bY) :: T7
theorem il (A:Af K "_law_merged" (top 67) f) (t:HA P w K mg base T7):HA P w K mg base T8 :=
 aC (aP XI Gn ["_law_one","_law_other","_law_rows","_law_note","_law_like_here","_law_best","_law_keys","_law_order"] ["_law_one","_law_other"] bJ A (by walk_at "d") (by delta bJ aA; walk_at "b")) t
def cq:FnS:=(bn (c8 1 (dD (aa (f1 (isX (fun c=>if ([5]:List Nat).contains c then some (c == 5) else none)) (ac 0)) ae))) (bn (dI (bOr (fB (f2 neX (fML DQ (ac 1) (aa (fC (.bl true)) ae)) (fC (.int 1)))) (gw (fB (f1 (isX (fun c=>if ([5]:List Nat).contains c then some true else none)) (ac 0))))) (bh (bc (aa (fC (.str "refused")) (aa (f1 vw (fC (.int 1))) ae)))) (fun ρ=>some (.nx ρ))) (bh (bc (aa (fC (.str "refused")) (aa (fML DI (ac 1) (aa (fC (.bl true)) ae)) ae))))))
def ba:List Dv→Option (Rs Dv):=bV 2 cq
def TM1:cF:=("_law_refused",1,["_law_e"],ba) :: TM0
theorem hX (A:Af K "_law_refused" (top 65) f) (tm:HAM P w K mg base TM0):HAM P w K mg base TM1 :=
 uC (x8 XI Gn ["_law_e","_law_flags"] ["_law_e"] cq A (by walk_at "d") (by delta cq; walk_at "b")) tm
def uU:FnS:=(bh (bc (aa (f2 ixD (ac 0) (fC (.int 0))) (aa (f2 ixD (ac 0) (fC (.int 2))) (aa (f2 ixD (ac 0) (fC (.int 4))) ae)))))
def bP:List Dv→Option (Rs Dv):=bV 1 uU
def T9:cF:=("key",1,["note"],bP) :: T8
theorem BO (A:Af K "key" (top 43) f) (t:HA P w K mg base T8):HA P w K mg base T9 :=
 aC (aP XI Gn ["note"] ["note"] uU A (by walk_at "d") (by delta uU; walk_at "b")) t
def aN:FnS:=(bn (c8 1 (aY 1 [] (bj (ac 0)) (gN 0) none (ah bP 1 (aa (ac 0) ae)))) (bh (f2 eqX (fB1 gQ (aa (ac 1) ae)) (fB1 fR (aa (ac 1) ae)))))
def aX:List Dv→Option (Rs Dv):=bV 2 aN
def T10:cF:=("has_no_key_twice",2,["notes"],aX) :: T9
theorem eA (A:Af K "has_no_key_twice" (top 48) f) (t:HA P w K mg base T9):HA P w K mg base T10 :=
 aC (aP XI Gn ["notes","keys"] ["notes"] aN A (by walk_at "d") (by delta aN; walk_at "b")) t
def du:FnS:=(bh (fB1 oz (aa (aO [("notes",0)] (fun ρ=>bnd ((aa (fC (.int 1)) (aa (fB1 fR (aa (ac 0) ae)) ae)) ρ) sZ) none (f2 leX (f2 ixD (f2 ixD (ac 1) (f2 zY (ac 0) (fC (.int 1)))) (fC (.int 8))) (f2 ixD (f2 ixD (ac 1) (ac 0)) (fC (.int 8))))) ae)))
def cB:List Dv→Option (Rs Dv):=bV 1 du
def T11:cF:=("is_by_made",1,["notes"],cB) :: T10
theorem jF (A:Af K "is_by_made" (top 47) f) (t:HA P w K mg base T10):HA P w K mg base T11 :=
 aC (aP XI Gn ["notes"] ["notes"] du A (by walk_at "d") (by delta du; walk_at "b")) t
def aQ:FnS:=(bn (dI (bOr (gw (fB (f1 (jm qu) (ac 0)))) (fB (f1 (jm fT) (ac 0)))) (bh (fC (.bl false))) (fun ρ=>some (.nx ρ))) (bh (mO (f2 leX (ac 1) (ac 0)) (f2 leX (ac 0) (ac 2)))))
def aR:List Dv→Option (Rs Dv):=bV 3 aQ
def T12:cF:=("is_whole_number",1,["thing","least","most"],aR) :: T11
theorem eX (A:Af K "is_whole_number" (top 5) f) (t:HA P w K mg base T11):HA P w K mg base T12 :=
 aC (aP XI Gn ["thing","least","most"] ["thing","least","most"] aQ A (by walk_at "d") (by delta aQ; walk_at "b")) t
def cY:FnS:=(bh (ah aR 3 (aa (ac 0) (aa (fC (.int 0)) (aa (fC (.int 9999)) ae)))))
def bx:List Dv→Option (Rs Dv):=bV 1 cY
def T13:cF:=("is_moment",2,["thing"],bx) :: T12
theorem kT (A:Af K "is_moment" (top 20) f) (t:HA P w K mg base T12):HA P w K mg base T13 :=
 aC (aP XI Gn ["thing"] ["thing"] cY A (by walk_at "d") (by delta cY; walk_at "b")) t
def aL:FnS:=(bh (vOr (f2 isN (ac 0) (fC .non)) (ah bx 1 (aa (ac 0) ae))))
def aD:List Dv→Option (Rs Dv):=bV 1 aL
def T14:cF:=("is_moment_or_none",3,["thing"],aD) :: T13
theorem dM (A:Af K "is_moment_or_none" (top 21) f) (t:HA P w K mg base T13):HA P w K mg base T14 :=
 aC (aP XI Gn ["thing"] ["thing"] aL A (by walk_at "d") (by delta aL; walk_at "b")) t
def dv:FnS:=(bn (dI (gw (fB (f1 (jm p0) (ac 0)))) (bh (fC (.bl false))) (fun ρ=>some (.nx ρ))) (bn (dI (bOr (fB (f2 ltX (fB1 fR (aa (ac 0) ae)) (ac 2))) (fB (f2 gtD (fB1 fR (aa (ac 0) ae)) (ac 3)))) (bh (fC (.bl false))) (fun ρ=>some (.nx ρ))) (bh (fB1 oz (aa (aO [("signs",1)] (bj (ac 0)) none (f2 inD (ac 0) (ac 1))) ae)))))
def bQ:List Dv→Option (Rs Dv):=bV 4 dv
def T15:cF:=("is_text_of",1,["thing","signs","least","most"],bQ) :: T14
theorem jG (A:Af K "is_text_of" (top 4) f) (t:HA P w K mg base T14):HA P w K mg base T15 :=
 aC (aP XI Gn ["thing","signs","least","most"] ["thing","signs","least","most"] dv A (by walk_at "d") (by delta dv; walk_at "b")) t
def fE:FnS:=(bn (dI (gw (fB (ah bQ 4 (aa (ac 0) (aa (fC (.str "abcdefghijklmnopqrstuvwxyz0123456789-")) (aa (fC (.int 1)) (aa (fC (.int 8)) ae))))))) (bh (fC (.bl false))) (fun ρ=>some (.nx ρ))) (bh (mO (Cq (fM (wV Lx) (ac 0) (aa (fC (.str "-")) ae))) (Cq (fM (wV N4) (ac 0) (aa (fC (.str "-")) ae))))))
def iX:List Dv→Option (Rs Dv):=bV 1 fE
def T16:cF:=("is_label",2,["thing"],iX) :: T15
theorem lW (A:Af K "is_label" (top 12) f) (t:HA P w K mg base T15):HA P w K mg base T16 :=
 aC (aP XI Gn ["thing"] ["thing"] fE A (by walk_at "d") (by delta fE; walk_at "b")) t
def hZ:FnS:=(bn (dI (gw (fB (f1 (jm p0) (ac 0)))) (bh (fC (.bl false))) (fun ρ=>some (.nx ρ))) (bn (c8 1 (fM (mT) (ac 0) (aa (fC (.str ".")) ae))) (bn (dI (bOr (fB (f2 gtD (fB1 fR (aa (ac 1) ae)) (fC (.int 5)))) (gw (fB (fB1 oz (aa (aO [] (bj (ac 1)) none (ah iX 1 (aa (ac 0) ae))) ae))))) (bh (fC (.bl false))) (fun ρ=>some (.nx ρ))) (bh (Cq (ah bQ 4 (aa (f2 ixD (ac 1) (f1 vw (fC (.int 1)))) (aa (fC (.str "0123456789")) (aa (fC (.int 1)) (aa (fC (.int 8)) ae))))))))))
def dw:List Dv→Option (Rs Dv):=bV 2 hZ
def T17:cF:=("is_name",3,["thing"],dw) :: T16
theorem oX (A:Af K "is_name" (top 13) f) (t:HA P w K mg base T16):HA P w K mg base T17 :=
 aC (aP XI Gn ["thing","parts"] ["thing"] hZ A (by walk_at "d") (by delta hZ; walk_at "b")) t
def cC:FnS:=(bh (ah bQ 4 (aa (ac 0) (aa (fC (.str "abcdefghijklmnopqrstuvwxyzABCDEFGHIJKLMNOPQRSTUVWXYZ0123456789-_")) (aa (fC (.int 1)) (aa (fC (.int 10)) ae))))))
def br:List Dv→Option (Rs Dv):=bV 1 cC
def T18:cF:=("is_note_name",2,["thing"],br) :: T17
theorem h8 (A:Af K "is_note_name" (top 27) f) (t:HA P w K mg base T17):HA P w K mg base T18 :=
 aC (aP XI Gn ["thing"] ["thing"] cC A (by walk_at "d") (by delta cC; walk_at "b")) t
def ib:FnS:=(bh (mO (ah bQ 4 (aa (ac 0) (aa (fC (.str "abcdefghijklmnopqrstuvwxyz0123456789-_./")) (aa (fC (.int 1)) (aa (fC (.int 20)) ae))))) (fM (wV Lx) (ac 0) (aa (fC (.str "/")) ae))))
def dz:List Dv→Option (Rs Dv):=bV 1 ib
def T19:cF:=("is_path",2,["thing"],dz) :: T18
theorem oY (A:Af K "is_path" (top 17) f) (t:HA P w K mg base T18):HA P w K mg base T19 :=
 aC (aP XI Gn ["thing"] ["thing"] ib A (by walk_at "d") (by delta ib; walk_at "b")) t
def fF:FnS:=(bh (vOr (f2 eqX (ac 0) (fC (.str "any"))) (f2 eqX (ac 0) (fC (.str "near")))))
def fG:List Dv→Option (Rs Dv):=bV 1 fF
def T20:cF:=("is_reach",1,["thing"],fG) :: T19
theorem lX (A:Af K "is_reach" (top 29) f) (t:HA P w K mg base T19):HA P w K mg base T20 :=
 aC (aP XI Gn ["thing"] ["thing"] fF A (by walk_at "d") (by delta fF; walk_at "b")) t
def cZ:FnS:=(bh (mO (f1 (jm oA) (ac 0)) (f2 eqX (fB1 fR (aa (ac 0) ae)) (ac 1))))
def c0:List Dv→Option (Rs Dv):=bV 2 cZ
def T21:cF:=("is_tuple_of",1,["thing","parts"],c0) :: T20
theorem io (A:Af K "is_tuple_of" (top 6) f) (t:HA P w K mg base T20):HA P w K mg base T21 :=
 aC (aP XI Gn ["thing","parts"] ["thing","parts"] cZ A (by walk_at "d") (by delta cZ; walk_at "b")) t
def fH:FnS:=(bn (dI (bOr (gw (fB (f1 (jm p0) (ac 0)))) (fB (f2 gtD (fB1 fR (aa (ac 0) ae)) (fC (.int 12))))) (bh (fC (.bl false))) (fun ρ=>some (.nx ρ))) (bh (fB1 oz (aa (aO [] (bj (ac 0)) none (mO (f2 leX (fC (.str "!")) (ac 0)) (mO (f2 leX (ac 0) (fC (.str "~"))) (f2 j6 (ac 0) (fC (.str ";,=")))))) ae))))
def cL:List Dv→Option (Rs Dv):=bV 1 fH
def T22:cF:=("is_worth",1,["thing"],cL) :: T21
theorem lY (A:Af K "is_worth" (top 28) f) (t:HA P w K mg base T21):HA P w K mg base T22 :=
 aC (aP XI Gn ["thing"] ["thing"] fH A (by walk_at "d") (by delta fH; walk_at "b")) t
def eY:FnS:=(bn (dI (gw (fB (ah c0 2 (aa (ac 0) (aa (fC (.int 10)) ae))))) (bh (fC (.bl false))) (fun ρ=>some (.nx ρ))) (bn (dI (bOr (gw (fB (ah bx 1 (aa (f2 ixD (ac 0) (fC (.int 8))) ae)))) (gw (fB (ah bx 1 (aa (f2 ixD (ac 0) (fC (.int 9))) ae))))) (bh (fC (.bl false))) (fun ρ=>some (.nx ρ))) (bh (fB1 oz (aa (dD (aa (ah br 1 (aa (f2 ixD (ac 0) (fC (.int 0))) ae)) (aa (ah cL 1 (aa (f2 ixD (ac 0) (fC (.int 1))) ae)) (aa (ah dw 1 (aa (f2 ixD (ac 0) (fC (.int 2))) ae)) (aa (f1 (jm fT) (f2 ixD (ac 0) (fC (.int 3)))) (aa (ah dz 1 (aa (f2 ixD (ac 0) (fC (.int 4))) ae)) (aa (ah aD 1 (aa (f2 ixD (ac 0) (fC (.int 5))) ae)) (aa (f1 (jm fT) (f2 ixD (ac 0) (fC (.int 6)))) (aa (ah fG 1 (aa (f2 ixD (ac 0) (fC (.int 7))) ae)) (aa (f2 leX (f2 ixD (ac 0) (fC (.int 8))) (f2 ixD (ac 0) (fC (.int 9)))) ae)))))))))) ae)))))
def cr:List Dv→Option (Rs Dv):=bV 1 eY
def T23:cF:=("is_note",4,["thing"],cr) :: T22
theorem oZ (A:Af K "is_note" (top 42) f) (t:HA P w K mg base T22):HA P w K mg base T23 :=
 aC (aP XI Gn ["thing"] ["thing"] eY A (by walk_at "d") (by delta eY; walk_at "b")) t
def eZ:FnS:=(bn (dI (bOr (gw (fB (f1 (jm oA) (ac 0)))) (fB (f2 gtD (fB1 fR (aa (ac 0) ae)) (fC (.int 20))))) (bh (fC (.bl false))) (fun ρ=>some (.nx ρ))) (bn (dI (gw (fB (fB1 oz (aa (aO [] (bj (ac 0)) none (ah cr 1 (aa (ac 0) ae))) ae)))) (bh (fC (.bl false))) (fun ρ=>some (.nx ρ))) (bh (mO (ah cB 1 (aa (ac 0) ae)) (ah aX 1 (aa (ac 0) ae))))))
def bt:List Dv→Option (Rs Dv):=bV 1 eZ
def T24:cF:=("is_jar",5,["thing"],bt) :: T23
theorem rN (A:Af K "is_jar" (top 46) f) (t:HA P w K mg base T23):HA P w K mg base T24 :=
 aC (aP XI Gn ["thing"] ["thing"] eZ A (by walk_at "d") (by delta eZ; walk_at "b")) t
def cu:FnS:=(dI (gw (fB (ah bt 1 (aa (ac 0) ae)))) (iC 5 (fC (.str "this is no jar"))) (fun ρ=>some (.nx ρ)))
def ax:List Dv→Option (Rs Dv):=mV 1 cu
def TE1:cF:=("need_jar",6,["thing"],ax) :: TE0
theorem lZ (A:Af K "need_jar" (top 49) f) (t:HA P w K mg base T24) (te:HAE P w K mg base TE0):HAE P w K mg base TE1 :=
 gh (jB XI Gn ["thing"] ["thing"] cu A (by walk_at "d") (by delta cu; walk_at "b")) te
def bM:FnS:=(bn (eI (bH ax 1 (aa (ac 0) ae))) (bn (eI (bH ax 1 (aa (ac 1) ae))) (bn (c8 2 (aO [] (bj (ac 0)) none (ah bP 1 (aa (ac 0) ae)))) (bn (c8 3 (aO [] (bj (ac 1)) none (ah bP 1 (aa (ac 0) ae)))) (bn (c8 4 (fB1 eU (aa (aO [("others",3)] (bj (ac 2)) (some (fB (f2 bB (ac 0) (ac 1)))) (ac 0)) ae))) (bn (c8 5 (fB1 eU (aa (aO [("ones",2)] (bj (ac 3)) (some (fB (f2 bB (ac 0) (ac 1)))) (ac 0)) ae))) (bn (c8 6 (fB1 eU (aa (aO [("other",1),("others",3)] (bj (ac 0)) (some (ow (fB (f2 inX (ah bP 1 (aa (ac 0) ae)) (ac 2))) (fB (f2 bB (ac 0) (ac 1))))) (ah bP 1 (aa (ac 0) ae))) ae))) (bh (bc (aa (ac 4) (aa (ac 5) (aa (ac 6) ae))))))))))))
def bd:List Dv→Option (Rs Dv):=mV 7 bM
def TE2:cF:=("changed",7,["one","other"],bd) :: TE1
theorem o6 (A:Af K "changed" (top 52) f) (t:HA P w K mg base T24) (te:HAE P w K mg base TE1):HAE P w K mg base TE2 :=
 gh (jB XI Gn ["one","other","ones","others","gone","new","unlike"] ["one","other"] bM A (by walk_at "d") (by delta bM; walk_at "b")) te
def c4:FnS:=(bh (bc (aa (f2 ixD (ac 0) (fC (.int 9))) (aa (f2 ixD (ac 0) (fC (.int 8))) ae))))
def aT:List Dv→Option (Rs Dv):=bV 1 c4
def T25:cF:=("when_last",1,["note"],aT) :: T24
theorem kU (A:Af K "when_last" (top 56) f) (t:HA P w K mg base T24):HA P w K mg base T25 :=
 aC (aP XI Gn ["note"] ["note"] c4 A (by walk_at "d") (by delta c4; walk_at "b")) t
def cM:FnS:=(bn (dI (fB (f2 gtT (ah aT 1 (aa (ac 1) ae)) (ah aT 1 (aa (ac 0) ae)))) (bh (ac 1)) (fun ρ=>some (.nx ρ))) (bh (ac 0)))
def cO:List Dv→Option (Rs Dv):=bV 2 cM
def T26:cF:=("later_of",2,["mine","its"],cO) :: T25
theorem l4 (A:Af K "later_of" (top 55) f) (t:HA P w K mg base T25):HA P w K mg base T26 :=
 aC (aP XI Gn ["mine","its"] ["mine","its"] cM A (by walk_at "d") (by delta cM; walk_at "b")) t
def az:FnS:=(dI (fB (f2 gtD (fB1 fR (aa (ac 0) ae)) (fC (.int 20)))) (iC 5 (fC (.str "these are more notes than a jar has"))) (fun ρ=>some (.nx ρ)))
def aw:List Dv→Option (Rs Dv):=mV 1 az
def TE3:cF:=("need_no_more_than_a_jar_has",1,["notes"],aw) :: TE2
theorem bR (A:Af K "need_no_more_than_a_jar_has" (top 50) f) (te:HAE P w K mg base TE2):HAE P w K mg base TE3 :=
 gh (jB XI Gn ["notes"] ["notes"] az A (by walk_at "d") (by delta az; walk_at "b")) te
def cP:FnS:=(bh (bc (aa (f2 ixD (ac 0) (fC (.int 8))) (aa (ah bP 1 (aa (ac 0) ae)) ae))))
def bD:List Dv→Option (Rs Dv):=bV 1 cP
def T27:cF:=("place_of",2,["note"],bD) :: T26
theorem l7 (A:Af K "place_of" (top 54) f) (t:HA P w K mg base T26):HA P w K mg base T27 :=
 aC (aP XI Gn ["note"] ["note"] cP A (by walk_at "d") (by delta cP; walk_at "b")) t
def bE:FnD:=(yh (ah bP 1 (aa (ac 3) ae)) (vE (ac 3)))
def bF:FnD:=(yh (ah bP 1 (aa (ac 3) ae)) (iV cO (yg (ah bP 1 (aa (ac 3) ae)) (ac 3)) (ac 3)))
def cw:FnS:=(bn (eI (bH ax 1 (aa (ac 0) ae))) (bn (eI (bH ax 1 (aa (ac 1) ae))) (rB 2 (yi 3 (ac 0) bE) (yi 3 (ac 1) bF) (Bu 4 (iW bD) (bn (eI (bH aw 1 (aa (ac 4) ae))) (bh (fB1 dN (aa (ac 4) ae))))))))
def bK:List Dv→Option (Rs Dv):=mV 5 cw
def TE4:cF:=("merged",7,["one","other"],bK) :: TE3
theorem rO (A:Af K "merged" (top 53) f) (t:HA P w K mg base T27) (te:HAE P w K mg base TE3):HAE P w K mg base TE4 :=
 gh (jB XI Gn ["one","other","chosen","note","notes"] ["one","other"] cw A (by walk_at "d") (by delta cw bE bF; walk_at "b")) te
def aU:FnS:=(yR 6 3 4 (fIf (fB (f2 eqX (ac 0) (fC (.int 0)))) (bH bd 2 (aa (ac 1) (aa (ac 2) ae))) (bH bK 2 (aa (ac 1) (aa (ac 2) ae)))) (ah ba 1 (aa (ac 3) ae)))
def av:List Dv→Option (Rs Dv):=bV 4 aU
def T28:cF:=("_law_told",8,["_law_way","_law_one","_law_other"],av) :: T27
theorem kW (A:Af K "_law_told" (top 66) f) (t:HA P w K mg base T27) (te:HAE P w K mg base TE4) (tm:HAM P w K mg base TM1):HA P w K mg base T28 :=
 aC (aP XI Gn ["_law_way","_law_one","_law_other","_law_e"] ["_law_way","_law_one","_law_other"] aU A (by walk_at "d") (by delta aU; walk_at "b")) t
def l8:FnE:=(ah aM 3 (aa (ac 0) (aa (fC (.int 20)) (aa (fC (.int 6)) ae))))
def mf:FnE:=(aO [] (bj (ac 1)) none (ah ai 1 (aa (ac 0) ae)))
def mh:FnE:=(aO [] (bj (ac 2)) none (ah ai 1 (aa (ac 0) ae)))
def mi:FnE:=(fB1 eU (aa (aO [("_law_yours",4)] (bj (ac 3)) (some (fB (f2 bB (ac 0) (ac 1)))) (ac 0)) ae))
def mj:FnE:=(fB1 eU (aa (aO [("_law_mine",3)] (bj (ac 4)) (some (fB (f2 bB (ac 0) (ac 1)))) (ac 0)) ae))
def ml:FnE:=(aY 1 [("_law_other",2),("_law_yours",4)] (bj (ac 1)) (gN 0) (some (ow (fB (f2 inX (ah ai 1 (aa (ac 0) ae)) (ac 2))) (fB (f2 bB (ac 0) (ac 1))))) (ac 0))
def mn:FnB:=(fB (f2 neX (ah av 3 (aa (fC (.int 0)) (aa (ac 1) (aa (ac 2) ae)))) (bc (aa (ac 5) (aa (ac 6) (aa (fB1 eU (aa (aO [] (bj (ac 7)) none (ah ai 1 (aa (ac 0) ae))) ae)) ae))))))
def mo:FnB:=(fB (f2 neX (ah av 3 (aa (fC (.int 1)) (aa (ac 1) (aa (ac 2) ae)))) (ah bY 2 (aa (ac 1) (aa (ac 2) ae)))))
def ic:FnS:=(bn (c8 3 mf) (bn (c8 4 mh) (bn (c8 5 mi) (bn (c8 6 mj) (bn (c8 7 ml) (bn (dI mn (bh (fC (.bl false))) (fun ρ=>some (.nx ρ))) (dI mo (bh (fC (.bl false))) (fun ρ=>some (.nx ρ)))))))))
def mq:FnE:=(fB1 dN (aa (aO [] (fun ρ=>bnd ((aa (fC (.int 20)) ae) ρ) lF) none (bc (aa (f2 bb (fC (.str "n")) (fB1 AD (aa (ac 0) ae))) (aa (fC (.str "")) (aa (fC (.str "a.b")) (aa (fC (.bl true)) (aa (fC (.str "/")) (aa (fC .non) (aa (fC (.bl false)) (aa (fC (.str "any")) (aa (fC (.int 0)) (aa (fC (.int 0)) ae)))))))))))) ae))
def mr:FnE:=(bc (aa (bc (aa (fC (.str "z")) (aa (fC (.str "")) (aa (fC (.str "a.b")) (aa (fC (.bl true)) (aa (fC (.str "/")) (aa (fC .non) (aa (fC (.bl false)) (aa (fC (.str "any")) (aa (fC (.int 0)) (aa (fC (.int 0)) ae))))))))))) ae))
def mv:FnB:=(fB (f2 neX (ah av 3 (aa (fC (.int 1)) (aa (ac 8) (aa (ac 9) ae)))) (bc (aa (fC (.str "refused")) (aa (fC (.int 0)) ae)))))
def mw:FnB:=(fB (f2 neX (fB1 fR (aa (ah av 3 (aa (fC (.int 1)) (aa (dk (ac 8) (cH (fC (.int 1))) dR) (aa (ac 9) ae)))) ae)) (fC (.int 20))))
def mx:FnB:=(fB (f2 neX (aO [("_law_bad",10)] (bj (bc (aa (fC (.int 0)) (aa (fC (.int 1)) ae)))) none (ah av 3 (aa (ac 0) (aa (ac 1) (aa (fC .non) ae))))) (f2 AI (dD (aa (bc (aa (fC (.str "refused")) (aa (fC (.int 0)) ae))) ae)) (fC (.int 2)))))
def my:FnB:=(fB (f2 neX (aO [("_law_jar_here",1),("_law_bad",10)] (bj (bc (aa (fC (.int 0)) (aa (fC (.int 1)) ae)))) none (ah av 3 (aa (ac 0) (aa (ac 1) (aa (ac 2) ae))))) (f2 AI (dD (aa (bc (aa (fC (.str "refused")) (aa (fC (.int 0)) ae))) ae)) (fC (.int 2)))))
def ie:FnS:=(bn (dI mx (bh (fC (.bl false))) (fun ρ=>some (.nx ρ))) (dI my (bh (fC (.bl false))) (fun ρ=>some (.nx ρ))))
def rP:FnS:=(bn (c8 1 l8) (bn (tf 2 [2,3,4,5,6,7] (bj (bc (aa (ah cm 3 (aa (ac 0) (aa (fC (.int 120)) (aa (ac 1) ae)))) (aa (ah aM 3 (aa (ac 0) (aa (fC (.int 220)) (aa (fC (.int 5)) ae)))) (aa (ac 1) (aa (bc ae) ae)))))) ic) (bn (c8 8 mq) (bn (c8 9 mr) (bn (dI mv (bh (fC (.bl false))) (fun ρ=>some (.nx ρ))) (bn (dI mw (bh (fC (.bl false))) (fun ρ=>some (.nx ρ))) (bn (tf 10 [10] (bj (bc (aa (fC .non) (aa (dD ae) (aa (bc (aa (bc ae) ae)) (aa (f2 bb (ac 8) (ac 9)) (aa (bc (aa (f2 ixD (ac 8) (fC (.int 0))) (aa (f2 ixD (ac 8) (fC (.int 0))) ae))) ae))))))) ie) (bh (fC (.bl true))))))))))
def rQ:List Dv→Option (Rs Dv):=bV 11 rP
theorem BP {fd:Ha} (A:Fun K "law" "law" (top 68) f fd) (t:HA P w K mg base T28):FnOk P w K mg base CX0 9 f fd ["_law_script"] (spF K rQ 1) :=
 vv ["_law_script","_law_jar_here","_law_other","_law_mine","_law_yours","_law_gone","_law_new","_law_both","_law_many","_law_more","_law_bad"] ["_law_script"] rP (by kernel_rfl) (by kernel_rfl) A (Cz (by kernel_rfl)) (by delta rP l8 mf mh mi mj ml mn mo ic mq mr mv mw mx my ie; walk_at "b")
end
theorem af {K:ck} {x:Str} {st:Stmt} (f:Addr) (m:String) (t c:Nat) (a:nsM K x=some (some (.ref f)):=by kernel_rfl) (l:K.lookup f=some ⟨GS "function",none,.func (I_ x x (fu st) (bG st) (aq st) .none .none .none (kS m t) none (kR c) .none),#[]⟩:=by kernel_rfl) (cc:Lw K (kR c) x=true:=by kernel_rfl) (k:Hv K (.ref f)=true:=by kernel_rfl):Af K x st f:=⟨a,⟨_,zx l cc k⟩,k⟩
theorem all_mk {l:MR} {w:x_} {K:ck} {h:Heap} {mg:Str→Option Value} {fa:Addr} (X:K.In h) (G:h.Ns w_ mg) (hfa:mg "law"=some (.ref fa))
 {f1 f2 f3 f4 f5 f6 f7 f8 f9 f10 f11 f12 f13 f14 f15 f16 f17 f18 f19 f20 f21 f22 f23 f24 f25 f26 f27 f28 f29 f30 f31 f32 f33 fl:Addr}
 (A1:Af K "_law_cell" (top 58) f1)
 (A2:Af K "_law_drawn" (top 59) f2)
 (A3:Af K "_law_name" (top 60) f3)
 (A4:Af K "_law_path" (top 61) f4)
 (A5:Af K "_law_jar" (top 62) f5)
 (A6:Af K "_law_key" (top 63) f6)
 (A7:Af K "_law_like" (top 64) f7)
 (A8:Af K "_law_merged" (top 67) f8)
 (A9:Af K "_law_refused" (top 65) f9)
 (A10:Af K "key" (top 43) f10)
 (A11:Af K "has_no_key_twice" (top 48) f11)
 (A12:Af K "is_by_made" (top 47) f12)
 (A13:Af K "is_whole_number" (top 5) f13)
 (A14:Af K "is_moment" (top 20) f14)
 (A15:Af K "is_moment_or_none" (top 21) f15)
 (A16:Af K "is_text_of" (top 4) f16)
 (A17:Af K "is_label" (top 12) f17)
 (A18:Af K "is_name" (top 13) f18)
 (A19:Af K "is_note_name" (top 27) f19)
 (A20:Af K "is_path" (top 17) f20)
 (A21:Af K "is_reach" (top 29) f21)
 (A22:Af K "is_tuple_of" (top 6) f22)
 (A23:Af K "is_worth" (top 28) f23)
 (A24:Af K "is_note" (top 42) f24)
 (A25:Af K "is_jar" (top 46) f25)
 (A26:Af K "need_jar" (top 49) f26)
 (A27:Af K "changed" (top 52) f27)
 (A28:Af K "when_last" (top 56) f28)
 (A29:Af K "later_of" (top 55) f29)
 (A30:Af K "need_no_more_than_a_jar_has" (top 50) f30)
 (A31:Af K "place_of" (top 54) f31)
 (A32:Af K "merged" (top 53) f32)
 (A33:Af K "_law_told" (top 66) f33)
 (AL:Af K "law" (top 68) fl) (ma:CC.all (Eg K)=true) {C5 CJ:Addr} (cb:caB K [5] [0,0,0,0,0,C5] CJ 6=true) :
 ∃ fd:Ha,(∀ (s:c_) (v:Value),LS s fd ⟨[v],[]⟩ [("_law_script",v)])∧∀ base:Heap,K.In base→base.Ns w_ mg→FnOk l.prog w K mg base CX0 9 fa fd ["_law_script"] (spF K rQ 1):=by
 have e:=hfa.symm.trans (JP X G AL.a)
 cases e
 have M:=Bh X G CC ma
 obtain ⟨fd,Fn⟩:=AL.F
 refine ⟨fd,?_,fun base _ _=>?_⟩
 · obtain ⟨oc,od,kV,doc,pm,an,cdv,ct,osl,rfl,lk,hcd⟩:=Fn.ex
   exact fun s v=>.of_eq rfl
 obtain ⟨xa,ca⟩:=Ep X G cb
 have t0:HA l.prog w K mg base T0:=Bg
 have te0:HAE l.prog w K mg base TE0:=xV
 have tm0:HAM l.prog w K mg base TM0:=xW
 have t1:=kN X G M xa ca A1 t0
 have t2:=jE X G M xa ca A2 t1
 have t3:=kO X G M xa ca A3 t2
 have t4:=kP X G M xa ca A4 t3
 have t5:=lU X G M xa ca A5 t4
 have t6:=lV X G M xa ca A6 t5
 have t7:=kQ X G M xa ca A7 t6
 have t8:=il X G M xa ca A8 t7
 have tm1:=hX X G M xa ca A9 tm0
 have t9:=BO X G M xa ca A10 t8
 have t10:=eA X G M xa ca A11 t9
 have t11:=jF X G M xa ca A12 t10
 have t12:=eX X G M xa ca A13 t11
 have t13:=kT X G M xa ca A14 t12
 have t14:=dM X G M xa ca A15 t13
 have t15:=jG X G M xa ca A16 t14
 have t16:=lW X G M xa ca A17 t15
 have t17:=oX X G M xa ca A18 t16
 have t18:=h8 X G M xa ca A19 t17
 have t19:=oY X G M xa ca A20 t18
 have t20:=lX X G M xa ca A21 t19
 have t21:=io X G M xa ca A22 t20
 have t22:=lY X G M xa ca A23 t21
 have t23:=oZ X G M xa ca A24 t22
 have t24:=rN X G M xa ca A25 t23
 have te1:=lZ X G M xa ca A26 t24 te0
 have te2:=o6 X G M xa ca A27 t24 te1
 have t25:=kU X G M xa ca A28 t24
 have t26:=l4 X G M xa ca A29 t25
 have te3:=bR X G M xa ca A30 te2
 have t27:=l7 X G M xa ca A31 t26
 have te4:=rO X G M xa ca A32 t27 te3
 have t28:=kW X G M xa ca A33 t27 te4 tm1
 exact BP X G M xa ca Fn t28
end G
set_option maxHeartbeats 4000000
namespace FD
open PySem PySem.Spec PyProof.Rows L2
theorem nP {elt:FnE} {cap:Ev} {α:Type} (en:α→Dv) (f:α→Dv):∀ {l:List α},(∀ a∈l,elt (cap.set 0 (some (en a)))=some (.ok (f a)))→pW none elt cap (l.map en)=some (l.map f)
 | [],_=>rfl
 | a :: l,h=>by
  have ih:=nP (elt:=elt) (cap:=cap) en f (l:=l) fun b hb=>h b (k_ _ hb)
  rw [t_,t_]
  unfold pW
  dsimp only
  rw [h a j_,ih]
theorem kX {tst:FnB} {elt:FnE} {cap:Ev} {α:Type} (en:α→Dv) (p:α→Bool) (f:α→Dv):∀ {l:List α},(∀ a∈l,tst (cap.set 0 (some (en a)))=some (.ok (p a))∧elt (cap.set 0 (some (en a)))=some (.ok (f a)))→pW (some tst) elt cap (l.map en)=some ((l.filter p).map f)
 | [],_=>rfl
 | a :: l,h=>by
  have ih:=kX (tst:=tst) (elt:=elt) (cap:=cap) en p f (l:=l) fun b hb=>h b (k_ _ hb)
  obtain ⟨h1,h2⟩:=h a j_
  rw [t_]
  unfold pW
  dsimp only
  rw [h1,ih]
  cases q:p a with
  | true=>dsimp only; rw [h2,Ic q]; rfl
  | false=>dsimp only; rw [HC (by rw [q]; decide)]
theorem nQ {elt:FnE} {cap:Ev} {α:Type} (en:α→Dv) (f:α→Dv):∀ {l:List α},(∀ a∈l,elt (cap.set 0 (some (en a)))=some (.ok (f a)))→iB (gN 0) none elt cap (l.map en)=some (l.map f)
 | [],_=>rfl
 | a :: l,h=>by
  have ih:=nQ (elt:=elt) (cap:=cap) en f (l:=l) fun b hb=>h b (k_ _ hb)
  rw [t_,t_]
  unfold iB
  show (match elt (cap.set 0 (some (en a))) with | some (.ok y)=>_ | _=>_)=_
  rw [h a j_,ih]
theorem kY {tst:FnB} {elt:FnE} {cap:Ev} {α:Type} (en:α→Dv) (p:α→Bool) (f:α→Dv):∀ {l:List α},(∀ a∈l,tst (cap.set 0 (some (en a)))=some (.ok (p a))∧elt (cap.set 0 (some (en a)))=some (.ok (f a)))→iB (gN 0) (some tst) elt cap (l.map en)=some ((l.filter p).map f)
 | [],_=>rfl
 | a :: l,h=>by
  have ih:=kY (tst:=tst) (elt:=elt) (cap:=cap) en p f (l:=l) fun b hb=>h b (k_ _ hb)
  obtain ⟨h1,h2⟩:=h a j_
  rw [t_]
  unfold iB
  show (match tst (cap.set 0 (some (en a))) with | some (.ok true)=>_ | some (.ok false)=>_ | _=>_)=_
  rw [h1,ih]
  cases q:p a with
  | true=>dsimp only; rw [h2,Ic q]; rfl
  | false=>dsimp only; rw [HC (by rw [q]; decide)]
theorem bZ {cs:List (Str×Nat)} {src:FnA} {elt:FnE} {ρ:Ev} {α:Type} (en f:α→Dv) {l:List α} (hs:src ρ=some (.ok (l.map en))) (hl:l.length≤100000) (h:∀ a∈l,elt ((sI cs ρ).set 0 (some (en a)))=some (.ok (f a))):aO cs src none elt ρ=some (.ok (.lst (l.map f))):=by
 unfold aO
 rw [hs]
 show (match pW none elt (sI cs ρ) (l.map en) with | some ys=>_ | none=>_)=_
 rw [nP en f h]
 dsimp only
 rw [if_pos ⟨by simpa using hl,by simpa using hl⟩]
theorem cQ {cs:List (Str×Nat)} {src:FnA} {tst:FnB} {elt:FnE} {ρ:Ev} {α:Type} (en:α→Dv) (p:α→Bool) (f:α→Dv) {l:List α} (hs:src ρ=some (.ok (l.map en))) (hl:l.length≤100000) (h:∀ a∈l,tst ((sI cs ρ).set 0 (some (en a)))=some (.ok (p a))∧elt ((sI cs ρ).set 0 (some (en a)))=some (.ok (f a))) :
 aO cs src (some tst) elt ρ=some (.ok (.lst ((l.filter p).map f))):=by
 unfold aO
 rw [hs]
 show (match pW (some tst) elt (sI cs ρ) (l.map en) with | some ys=>_ | none=>_)=_
 rw [kX en p f h]
 dsimp only
 have:=Jq p l
 rw [if_pos ⟨by simp; omega,by simpa using hl⟩]
theorem kZ {cs:List (Str×Nat)} {src:FnA} {elt:FnE} {ρ:Ev} {α:Type} (en f:α→Dv) {l:List α} (hs:src ρ=some (.ok (l.map en))) (hl:l.length≤100000) (h:∀ a∈l,elt ((dS 1 cs ρ).set 0 (some (en a)))=some (.ok (f a))):aY 1 cs src (gN 0) none elt ρ=some (.ok (.lst (l.map f))):=by
 unfold aY
 rw [hs]
 show (match iB (gN 0) none elt (dS 1 cs ρ) (l.map en) with | some ys=>_ | none=>_)=_
 rw [nQ en f h]
 dsimp only
 rw [if_pos ⟨by simpa using hl,by simpa using hl⟩]
theorem iY {cs:List (Str×Nat)} {src:FnA} {tst:FnB} {elt:FnE} {ρ:Ev} {α:Type} (en:α→Dv) (p:α→Bool) (f:α→Dv) {l:List α} (hs:src ρ=some (.ok (l.map en))) (hl:l.length≤100000) (h:∀ a∈l,tst ((dS 1 cs ρ).set 0 (some (en a)))=some (.ok (p a))∧elt ((dS 1 cs ρ).set 0 (some (en a)))=some (.ok (f a))) :
 aY 1 cs src (gN 0) (some tst) elt ρ=some (.ok (.lst ((l.filter p).map f))):=by
 unfold aY
 rw [hs]
 show (match iB (gN 0) (some tst) elt (dS 1 cs ρ) (l.map en) with | some ys=>_ | none=>_)=_
 rw [kY en p f h]
 dsimp only
 have:=Jq p l
 rw [if_pos ⟨by simp; omega,by simpa using hl⟩]
theorem yu {i j:Int} (h:-(2 ^ 62)≤i∧i < 2 ^ 62∧-(2 ^ 62)≤j∧j < 2 ^ 62):sZ [.int i,.int j]=some (.ok (rng i (j - i).toNat)):=by rw [sZ,if_pos h]
theorem yw {j:Int} (h:-(2 ^ 62)≤j∧j < 2 ^ 62):lF [.int j]=some (.ok (rng 0 j.toNat)):=by rw [lF,if_pos h]
theorem yx {n:Nat} (h:n≤1000):-(2 ^ 62)≤(1:Int)∧(1:Int) < 2 ^ 62∧-(2 ^ 62)≤(n:Int)∧(n:Int) < 2 ^ 62:=by omega
theorem BQ {n:Nat} (h:n≤1000):sZ [.int 1,.int (n:Int)]=some (.ok (rng 1 ((n:Int) - 1).toNat)):=yu (yx h)
theorem v3 {n:Nat} (h:n≤1000):lF [.int (n:Int)]=some (.ok (rng 0 n)):=by
 rw [yw (by omega)]; rfl
theorem k6 {α:Type} (p:α→Bool):∀ l:List α,jj (l.map fun a=>Dv.bl (p a))=some (l.map p)
 | []=>rfl
 | a :: l=>by
  show (match jj (l.map fun a=>Dv.bl (p a)) with | some bs=>some (p a :: bs) | none=>none)=_
  rw [k6 p l]
  rfl
mutual
def pln:Dv→Bool
 | .exn _=>false
 | .tup ds=>plns ds
 | .lst ds=>plns ds
 | _=>true
def plns:List Dv→Bool
 | []=>true
 | d :: ds=>pln d && plns ds
end
mutual
theorem nR:∀ d:Dv,pln d=true→GN (bp d) (bp d)=true
 | .non,_=>by simp [bp,GN]
 | .bl b,_=>by simp [bp,GN]
 | .int b,_=>by simp [bp,GN]
 | .str b,_=>by simp [bp,GN]
 | .tup ds,h=>by simp only [bp,GN]; exact eqvs_refl ds (by simpa [pln] using h)
 | .lst ds,h=>by simp only [bp,GN]; exact eqvs_refl ds (by simpa [pln] using h)
 | .scr ns,_=>by
  simp only [bp,GN]
  induction ns with
  | nil=>simp [HX]
  | cons n ns ih=>simp [HX,GN]; exact ih rfl
 | .exn _,h=>by simp [pln] at h
theorem eqvs_refl:∀ ds:List Dv,plns ds=true→HX (toPys ds) (toPys ds)=true
 | [],_=>by simp [toPys,HX]
 | d :: ds,h=>by
  have h':pln d=true∧plns ds=true:=by simpa [plns] using h
  simp only [toPys,HX,g_]
  exact ⟨nR d h'.1,eqvs_refl ds h'.2⟩
end
theorem yy {d:Dv} (h1:okP d=true) (h2:pln d=true):neX d d=some (.ok (.bl false)):=by
 unfold neX
 split
 · rename_i b hb
   have:b=true:=by
    cases d <;> simp [eqS] at hb
    · exact hb
    · exact hb
    · exact hb
    · rw [← hb]; unfold seq; simp
   rw [this]; rfl
 · rw [h1,nR d h2]; rfl
structure It1 (k:Nat) (d:Dv):Prop where
 c:G4 (bp d)=true
 dp:(bp d).depth≤k
 p:pln d=true
theorem uV {k:Nat}:∀ {ds:List Dv},(∀ d∈ds,It1 k d)→Ht (toPys ds)=true∧Iv (toPys ds)≤k∧plns ds=true
 | [],_=>by simp [toPys,Ht,Iv,plns]
 | d :: ds,h=>by
  obtain ⟨h1,h2,h3⟩:=uV (ds:=ds) fun d' hd=>h d' (k_ _ hd)
  have h0:=h d j_
  simp only [toPys,Ht,Iv,plns,g_]
  exact ⟨⟨h0.c,h1⟩,by have:=h0.dp; omega,h0.p,h3⟩
theorem k7 {k:Nat} {ds:List Dv} (h:∀ d∈ds,It1 k d):It1 (k + 1) (.tup ds):=by
 obtain ⟨h1,h2,h3⟩:=uV h
 exact ⟨by simpa [bp,G4] using h1,by simp [bp,Ku]; exact h2,by simpa [pln] using h3⟩
theorem v4 {k:Nat} {ds:List Dv} (h:∀ d∈ds,It1 k d):It1 (k + 1) (.lst ds):=by
 obtain ⟨h1,h2,h3⟩:=uV h
 exact ⟨by simpa [bp,G4] using h1,by simp [bp,Ku]; exact h2,by simpa [pln] using h3⟩
theorem It1.okP {k:Nat} {d:Dv} (h:It1 k d) (hk:k≤64):okP d=true:=by
 unfold FD.okP SeqAt.shaped
 rw [h.c]
 have:=h.dp
 simp
 omega
theorem It1.le {k m:Nat} {d:Dv} (h:It1 k d) (hk:k≤m):It1 m d:=⟨h.c,GG h.dp hk,h.p⟩
theorem fV {x:Str} (h:G4 (.str x)=true):It1 0 (.str x):=⟨h,by simp [bp,Ku],rfl⟩
theorem it_int {i:Int}:It1 0 (.int i):=⟨rfl,by simp [bp,Ku],rfl⟩
theorem BR {i:Bool}:It1 0 (.bl i):=⟨rfl,by simp [bp,Ku],rfl⟩
theorem BS:It1 0 .non:=⟨rfl,by simp [bp,Ku],rfl⟩
theorem k8 {α:Type} (f:α→Dv):∀ l:List α,toPys (l.map f)=l.map fun a=>bp (f a)
 | []=>rfl
 | a :: l=>by simp [toPys,k8 f l]
theorem BU {x:Dv} {α:Type} {en:α→Dv} {l:List α} {p:α→Bool} (hx:It1 5 x) (hf:df x=false) (hl:∀ a∈l,It1 5 (en a)) (hp:∀ a∈l,GN (bp (en a)) (bp x)=p a):inX x (.lst (l.map en))=some (.ok (.bl (l.any p)))∧bB x (.lst (l.map en))=some (.ok (.bl (!l.any p)))∧inX x (.tup (l.map en))=some (.ok (.bl (l.any p)))∧bB x (.tup (l.map en))=some (.ok (.bl (!l.any p))):=by
 have e:inP x (l.map en)=some (l.any p):=by
  unfold inP
  have h1:=hx.okP (by omega)
  have h2:=(uV (k:=5) (ds:=l.map en) (by intro d hd; obtain ⟨a,ha,rfl⟩:=Go.mp hd; exact hl a ha)).1
  have h3:decide ((bp x).depth≤63)=true:=by have:=hx.dp; simp; omega
  rw [h1,h2,h3]
  simp only [Bool.and_self,if_true]
  rw [k8]
  congr 1
  clear h1 h2 h3 hl hx
  induction l with
  | nil=>rfl
  | cons a l ih =>
   simp only [t_,HH]
   rw [hp a j_,ih fun b hb=>hp b (k_ _ hb)]
 have e0:∀ ys,inL x ys=none:=fun ys=>by unfold inL; rw [hf]; rfl
 have n1:wP x (.lst (l.map en))=none:=by cases x <;> first | exact e0 _ | rfl
 have n2:wP x (.tup (l.map en))=none:=by cases x <;> first | exact e0 _ | rfl
 refine ⟨?_,?_,?_,?_⟩ <;> simp [inX,bB,Av,n1,n2,e]
end FD
namespace G
open PySem PySem.Spec PyProof.Rows L2 FD
theorem BV {n:Nat} {B:FnS} {ds:List Dv} {d:Dv} (h:B (ds.map some ++ rl (n - ds.length) none)=some (.rt d)):mV n B ds=some (.ok d):=by unfold mV; rw [h]
theorem Fv {n:Nat} {B:FnS} {ds:List Dv} {c:Nat} (h:B (ds.map some ++ rl (n - ds.length) none)=some (.exc c)):mV n B ds=some (.exc c):=by unfold mV; rw [h]
theorem cE (F:List Dv→Option (Rs Dv)) {n:Nat} {g:FnA} {ρ:Ev} {ds:List Dv} {r:Option (Rs Dv)} (h:g ρ=some (.ok ds)) (hl:ds.length=n) (hF:F ds=r):bH F n g ρ=r:=by
 unfold bH
 rw [h,← hF]
 exact if_pos hl
theorem Gd {v:FnE} {ρ:Ev} {c:Nat} (h:v ρ=some (.exc c)):eI v ρ=some (.exc c):=by unfold eI; rw [h]; rfl
theorem CB {a b:FnS} {ρ:Ev} {c:Nat} (h:a ρ=some (.exc c)):bn a b ρ=some (.exc c):=by unfold bn; rw [h]; rfl
theorem yz (ns:List Int) (hl:ns.length≤63) (k:Int):∃ c,bw [.scr ns,.int k]=some (.ok (.int c)):=by
 cases ns with
 | nil=>exact ⟨7 * k,by kernel_rfl⟩
 | cons n r =>
  have h0:0 < (n :: r).length:=by simp
  have h1:(0:Int) < ((n :: r).length:Int):=by omega
  have h2:((n :: r).length:Int) < 1073741824:=by omega
  have h3:0≤k % ((n :: r).length:Int):=Iy _ (by omega)
  have h4:k % ((n :: r).length:Int) < ((n :: r).length:Int):=Hz _ h1
  have h5:(k % ((n :: r).length:Int)).toNat < (n :: r).length:=by omega
  refine ⟨(n :: r)[(k % ((n :: r).length:Int)).toNat] + 6553 * (k / ((n :: r).length:Int)),?_⟩
  have hat:atD (n :: r) (k % ((n :: r).length:Int))=some (n :: r)[(k % ((n :: r).length:Int)).toNat]:=by
   unfold atD
   rw [if_pos h3,n_ h5]
  have hm:eC (.int k) (.int ((n :: r).length:Int))=some (.ok (.int (k % ((n :: r).length:Int)))):=by
   show (if 0 < ((n :: r).length:Int) then _ else _)=_
   rw [if_pos h1]
  have hd:eK (.int k) (.int ((n :: r).length:Int))=some (.ok (.int (k / ((n :: r).length:Int)))):=by
   show (if 0 < ((n :: r).length:Int)∧((n :: r).length:Int) < 1073741824 then _ else _)=_
   rw [if_pos ⟨h1,h2⟩]
  have hi:ixD (.scr (n :: r)) (.int (k % ((n :: r).length:Int)))=some (.ok (.int (n :: r)[(k % ((n :: r).length:Int)).toNat])):=by
   show (match atD (n :: r) (k % ((n :: r).length:Int)) with | some d=>_ | none=>_)=_
   rw [hat]
  show (match cf [some (.scr (n :: r)),some (.int k)] with | some (.nx _)=>_ | some (.rt d)=>_ | _=>_)=_
  have e:cf [some (.scr (n :: r)),some (.int k)]=c9 (bnd (bnd (eC (.int k) (.int ((n :: r).length:Int))) fun i=>ixD (.scr (n :: r)) i) fun x=>bnd (bnd (eK (.int k) (.int ((n :: r).length:Int))) fun q=>fQ (.int 6553) q) fun y=>ii x y) fun d=>some (.rt d):=by kernel_rfl
  rw [e,hm,hd]
  show (match c9 (bnd (ixD (.scr (n :: r)) (.int (k % ((n :: r).length:Int)))) fun x=>_) _ with | some (.nx _)=>_ | some (.rt d)=>_ | _=>_)=_
  rw [hi]
  kernel_rfl
def dr1 (c k:Int):Int:=(c % 2147483563 * 69069 + 104723 * (k + 1)) % 2147483563
def dr2 (c:Int):Int:=(c * c + c / 3) % 2147483399
def dr3 (c m:Int):Int:=(c * c + c / 7) % 2147483647 / 11 % m
theorem k9 {i j:Int} (h:(-18446744073709551616 < i∧i < 18446744073709551616)∨(-18446744073709551616 < j∧j < 18446744073709551616)):fQ (.int i) (.int j)=some (.ok (.int (i * j))):=by
 show (if _ then _ else _)=_
 rw [if_pos h]
theorem la {i j:Int} (h:0 < j):eC (.int i) (.int j)=some (.ok (.int (i % j))):=by
 show (if _ then _ else _)=_
 rw [if_pos h]
theorem bf (ns:List Int) (hl:ns.length≤63) (k m:Int) (hm:0 < m):∃ d:Int,0≤d∧d < m∧ag [.scr ns,.int k,.int m]=some (.ok (.int d)):=by
 obtain ⟨c,hc⟩:=yz ns hl k
 refine ⟨dr3 (dr2 (dr1 c k)) m,Iy _ (by omega),Hz _ hm,?_⟩
 have b1:0≤dr1 c k∧dr1 c k < 2147483563:=⟨Iy _ (by omega),Hz _ (by omega)⟩
 have b2:0≤dr2 (dr1 c k)∧dr2 (dr1 c k) < 2147483399:=⟨Iy _ (by omega),Hz _ (by omega)⟩
 have b0:0≤c % 2147483563∧c % 2147483563 < 2147483563:=⟨Iy _ (by omega),Hz _ (by omega)⟩
 show bV 4 bC [.scr ns,.int k,.int m]=_
 have s1:(ah bw 2 (aa (ac 0) (aa (ac 1) ae))) [some (.scr ns),some (.int k),some (.int m),none]=some (.ok (.int c)):=by
  show (match bw [.scr ns,.int k] with | some (.ok d)=>(some (.ok d):Option (Rs Dv)) | _=>none)=_
  rw [hc]
 have e1:(c8 3 (f2 eC (f2 ii (f2 fQ (f2 eC (ah bw 2 (aa (ac 0) (aa (ac 1) ae))) (fC (.int 2147483563))) (fC (.int 69069))) (f2 fQ (fC (.int 104723)) (f2 ii (ac 1) (fC (.int 1))))) (fC (.int 2147483563)))) [some (.scr ns),some (.int k),some (.int m),none]=some (.nx [some (.scr ns),some (.int k),some (.int m),some (.int (dr1 c k))]):=by
  show c9 (bnd (bnd (bnd (bnd ((ah bw 2 (aa (ac 0) (aa (ac 1) ae))) [some (.scr ns),some (.int k),some (.int m),none]) fun x=>eC x (.int 2147483563)) fun x=>fQ x (.int 69069)) fun x=>bnd (fQ (.int 104723) (.int (k + 1))) fun y=>ii x y) fun x=>eC x (.int 2147483563)) (fun d=>some (.nx [some (.scr ns),some (.int k),some (.int m),some d]))=_
  rw [s1]
  show c9 (bnd (bnd (bnd (eC (.int c) (.int 2147483563)) fun x=>fQ x (.int 69069)) fun x=>bnd (fQ (.int 104723) (.int (k + 1))) fun y=>ii x y) fun x=>eC x (.int 2147483563)) _=_
  rw [la (by omega),k9 (i:=104723) (.inl (by omega))]
  show c9 (bnd (bnd (fQ (.int (c % 2147483563)) (.int 69069)) fun x=>ii x (.int (104723 * (k + 1)))) fun x=>eC x (.int 2147483563)) _=_
  rw [k9 (.inl (by omega))]
  show c9 (eC (.int (c % 2147483563 * 69069 + 104723 * (k + 1))) (.int 2147483563)) _=_
  rw [la (by omega)]
  rfl
 generalize hd1:dr1 c k=d1 at *
 have e2:(c8 3 (f2 eC (f2 ii (f2 fQ (ac 3) (ac 3)) (f2 eK (ac 3) (fC (.int 3)))) (fC (.int 2147483399)))) [some (.scr ns),some (.int k),some (.int m),some (.int d1)]=some (.nx [some (.scr ns),some (.int k),some (.int m),some (.int (dr2 d1))]):=by
  show c9 (bnd (bnd (fQ (.int d1) (.int d1)) fun x=>ii x (.int (d1 / 3))) fun x=>eC x (.int 2147483399)) (fun d=>some (.nx [some (.scr ns),some (.int k),some (.int m),some d]))=_
  rw [k9 (.inl (by omega))]
  show c9 (eC (.int (d1 * d1 + d1 / 3)) (.int 2147483399)) _=_
  rw [la (by omega)]
  rfl
 generalize hd2:dr2 d1=d2 at *
 have e3:(bh (f2 eC (f2 eK (f2 eC (f2 ii (f2 fQ (ac 3) (ac 3)) (f2 eK (ac 3) (fC (.int 7)))) (fC (.int 2147483647))) (fC (.int 11))) (ac 2))) [some (.scr ns),some (.int k),some (.int m),some (.int d2)]=some (.rt (.int (dr3 d2 m))):=by
  show c9 (bnd (bnd (bnd (bnd (fQ (.int d2) (.int d2)) fun x=>ii x (.int (d2 / 7))) fun x=>eC x (.int 2147483647)) fun x=>eK x (.int 11)) fun x=>eC x (.int m)) (fun d=>some (.rt d))=_
  rw [k9 (.inl (by omega))]
  show c9 (bnd (bnd (eC (.int (d2 * d2 + d2 / 7)) (.int 2147483647)) fun x=>eK x (.int 11)) fun x=>eC x (.int m)) _=_
  rw [la (by omega)]
  show c9 (eC (.int ((d2 * d2 + d2 / 7) % 2147483647 / 11)) (.int m)) _=_
  rw [la hm]
  rfl
 show (match bC [some (.scr ns),some (.int k),some (.int m),none] with | some (.nx _)=>_ | some (.rt d)=>_ | _=>_)=_
 have e:bC [some (.scr ns),some (.int k),some (.int m),none]=some (.rt (.int (dr3 d2 m))):=by
  show sq ((c8 3 _) _) (fun ρ=>sq ((c8 3 _) ρ) _)=_
  rw [e1]
  show sq ((c8 3 _) [some (.scr ns),some (.int k),some (.int m),some (.int d1)]) _=_
  rw [e2]
  exact e3
 rw [e]
def menu:List Str:=[a_ "a.b",a_ "b",a_ "x.a.b",a_ "y.x.a.b",a_ "c.uk",a_ "uk",a_ "d.c.uk",a_ "e.d.c.uk",a_ "w.ck",a_ "v.w.ck",a_ "ck",a_ "g-1.a.b",a_ "7.b",a_ "p.q"]
theorem yA (ns:List Int) (hl:ns.length≤63) (k:Int):∃ p∈menu,cg [.scr ns,.int k]=some (.ok (.str p)):=by
 obtain ⟨d,h0,h1,hd⟩:=bf ns hl k 14 (by omega)
 have e:cg [.scr ns,.int k]=(match c9 (bnd (match ag [.scr ns,.int k,.int 14] with | some (.ok d)=>(some (.ok d):Option (Rs Dv)) | _=>none) fun i=>ixD (.lst (menu.map Dv.str)) i) fun d=>some (.rt d) with
  | some (.nx _)=>some (.ok .non)
  | some (.rt d)=>some (.ok d)
  | _=>none):=by kernel_rfl
 rw [e,hd]
 have hc:d=0∨d=1∨d=2∨d=3∨d=4∨d=5∨d=6∨d=7∨d=8∨d=9∨d=10∨d=11∨d=12∨d=13:=by omega
 rcases hc with rfl | rfl | rfl | rfl | rfl | rfl | rfl | rfl | rfl | rfl | rfl | rfl | rfl | rfl
 · exact ⟨a_ "a.b",by simp [menu],by kernel_rfl⟩
 · exact ⟨a_ "b",by simp [menu],by kernel_rfl⟩
 · exact ⟨a_ "x.a.b",by simp [menu],by kernel_rfl⟩
 · exact ⟨a_ "y.x.a.b",by simp [menu],by kernel_rfl⟩
 · exact ⟨a_ "c.uk",by simp [menu],by kernel_rfl⟩
 · exact ⟨a_ "uk",by simp [menu],by kernel_rfl⟩
 · exact ⟨a_ "d.c.uk",by simp [menu],by kernel_rfl⟩
 · exact ⟨a_ "e.d.c.uk",by simp [menu],by kernel_rfl⟩
 · exact ⟨a_ "w.ck",by simp [menu],by kernel_rfl⟩
 · exact ⟨a_ "v.w.ck",by simp [menu],by kernel_rfl⟩
 · exact ⟨a_ "ck",by simp [menu],by kernel_rfl⟩
 · exact ⟨a_ "g-1.a.b",by simp [menu],by kernel_rfl⟩
 · exact ⟨a_ "7.b",by simp [menu],by kernel_rfl⟩
 · exact ⟨a_ "p.q",by simp [menu],by kernel_rfl⟩
def pths : List Str := [a_ "/", a_ "/x", a_ "/x/", a_ "/x/y", a_ "/xy", a_ "/x/y/z.q", a_ "//", a_ "/-_.9", a_ "/x/y/"]
theorem yB (ns:List Int) (hl:ns.length≤63) (k:Int):∃ p∈pths,ci [.scr ns,.int k]=some (.ok (.str p)):=by
 obtain ⟨d,h0,h1,hd⟩:=bf ns hl k 9 (by omega)
 have e:ci [.scr ns,.int k]=(match c9 (bnd (match ag [.scr ns,.int k,.int 9] with | some (.ok d)=>(some (.ok d):Option (Rs Dv)) | _=>none) fun i=>ixD (.lst (pths.map Dv.str)) i) fun d=>some (.rt d) with
  | some (.nx _)=>some (.ok .non)
  | some (.rt d)=>some (.ok d)
  | _=>none):=by kernel_rfl
 rw [e,hd]
 have hc:d=0∨d=1∨d=2∨d=3∨d=4∨d=5∨d=6∨d=7∨d=8:=by omega
 rcases hc with rfl | rfl | rfl | rfl | rfl | rfl | rfl | rfl | rfl
 · exact ⟨a_ "/",by simp [pths],by kernel_rfl⟩
 · exact ⟨a_ "/x",by simp [pths],by kernel_rfl⟩
 · exact ⟨a_ "/x/",by simp [pths],by kernel_rfl⟩
 · exact ⟨a_ "/x/y",by simp [pths],by kernel_rfl⟩
 · exact ⟨a_ "/xy",by simp [pths],by kernel_rfl⟩
 · exact ⟨a_ "/x/y/z.q",by simp [pths],by kernel_rfl⟩
 · exact ⟨a_ "//",by simp [pths],by kernel_rfl⟩
 · exact ⟨a_ "/-_.9", by simp [pths], by kernel_rfl⟩
 · exact ⟨a_ "/x/y/",by simp [pths],by kernel_rfl⟩
theorem ig (F:List Dv→Option (Rs Dv)) {f g k:FnE} {ρ:Ev} {a b c d:Dv} (h:f ρ=some (.ok a)) (h':g ρ=some (.ok b)) (h'':k ρ=some (.ok c)) (hF:F [a,b,c]=some (.ok d)):ah F 3 (aa f (aa g (aa k ae))) ρ=some (.ok d):=jn (aj h (aj h' (aj h'' aG))) rfl hF
theorem rR {f:FnE} {ρ:Ev} {ds:List Dv} (h:f ρ=some (.ok (.tup ds))):bj f ρ=some (.ok ds):=by unfold bj; rw [h]; rfl
abbrev bo (k:Bool):Option (Rs Dv):=some (.ok (.bl k))
def En:List Str:=menu
theorem uW {x y:Str} (h:seq x y=true):x=y:=by
 unfold seq at h
 obtain ⟨⟨a⟩⟩:=x; obtain ⟨⟨b⟩⟩:=y
 simp at h
 rw [h]
def okY:Option (Rs Dv)→Bool
 | some (.ok (.bl true))=>true
 | _=>false
theorem nU {o:Option (Rs Dv)} (h:okY o=true):o=some (.ok (.bl true)):=by
 unfold okY at h; split at h
 · rfl
 · cases h
def okF:Option (Rs Dv)→Bool
 | some (.ok (.bl false))=>true
 | _=>false
theorem BW {o:Option (Rs Dv)} (h:okF o=true):o=some (.ok (.bl false)):=by
 unfold okF at h; split at h
 · rfl
 · cases h
def nms:List Str:=[a_ "n",a_ "m-1",a_ "safe-a",a_ "N_2"]
def wts:List Str:=[a_ "5",a_ "",a_ "a!b~"]
theorem BX:(nms.all fun n=>okY (br [.str n]))=true:=by kernel_rfl
theorem BY:(wts.all fun n=>okY (cL [.str n]))=true:=by kernel_rfl
theorem BZ:(En.all fun n=>okY (dw [.str n]))=true:=by kernel_rfl
theorem B0:(pths.all fun n=>okY (dz [.str n]))=true:=by kernel_rfl
theorem Ge {n:Str} (h:n∈nms):br [.str n]=bo true:=nU (el (p:=fun n=>okY (br [.str n])) BX h)
theorem Gf {n:Str} (h:n∈wts):cL [.str n]=bo true:=nU (el (p:=fun n=>okY (cL [.str n])) BY h)
theorem Gg {n:Str} (h:n∈En):dw [.str n]=bo true:=nU (el (p:=fun n=>okY (dw [.str n])) BZ h)
theorem Gh {n:Str} (h:n∈pths):dz [.str n]=bo true:=nU (el (p:=fun n=>okY (dz [.str n])) B0 h)
theorem me {h:Str} (q:h∈menu):h∈En:=q
theorem nV {l:List Dv} {d:Int} (h0:0≤d) (h1:d < l.length):∃ x∈l,ixD (.lst l) (.int d)=some (.ok x):=by
 have h2:d.toNat < l.length:=by omega
 refine ⟨l[d.toNat],Mt h2,?_⟩
 show (match atD l d with | some d=>_ | none=>_)=_
 unfold atD
 rw [if_pos h0,n_ h2]
theorem ED (i:Int):bx [.int i]=bo (decide (0≤i) && decide (i≤9999)):=by
 have e:aR [.int i,.int 0,.int 9999]=bo (decide (0≤i) && decide (i≤9999)):=by
  by_cases h0:0≤i
  · simp [aR,bV,aQ,bn,sq,dI,bh,c9,bnd,bOr,gw,fB,toB,ac,f1,f2,mO,jm,fT,qu,leX,h0]
  · simp [aR,bV,aQ,bn,sq,dI,bh,c9,bnd,bOr,gw,fB,toB,ac,f1,f2,mO,jm,fT,qu,leX,h0]
 simp [bx,bV,cY,bh,c9,bnd,ah,aa,ae,ac,fC,e]
theorem yC {i:Int} (h0:0≤i) (h1:i≤9999):bx [.int i]=bo true:=by
 rw [ED]; simp [h0,h1]
def Mo (u:Dv):Prop:=u=.non∨∃ i:Int,0≤i∧i≤9999∧u=.int i
theorem B1 {u:Dv} (h:Mo u):aD [u]=bo true:=by
 rcases h with rfl | ⟨i,h0,h1,rfl⟩
 · simp [aD,bV,aL,bh,c9,bnd,toB,ac,fC,f2,vOr,isN]
 · simp [aD,bV,aL,bh,c9,bnd,toB,ah,aa,ae,ac,fC,f2,vOr,isN,yC h0 h1]
theorem yD {R:Str} (h:R=a_ "any"∨R=a_ "near"):fG [.str R]=bo true∧∃ r,eqX (.str R) (.str "any")=bo r∧eqX (.str R) (.str "near")=bo (!r):=by
 rcases h with rfl | rfl
 · exact ⟨by kernel_rfl,true,by kernel_rfl,by kernel_rfl⟩
 · exact ⟨by kernel_rfl,false,by kernel_rfl,by kernel_rfl⟩
structure Note where
 nm:Str
 w:Str
 house:Str
 ex:Bool
 path:Str
 ends:Option Int
 S:Bool
 R:Str
 md:Int
 us:Int
deriving DecidableEq
def eO:Option Int→Dv
 | none=>.non
 | some i=>.int i
def enc (n:Note):Dv:=.tup [.str n.nm,.str n.w,.str n.house,.bl n.ex,.str n.path,eO n.ends,.bl n.S,.str n.R,.int n.md,.int n.us]
def ek (n:Note):Dv:=.tup [.str n.nm,.str n.house,.str n.path]
def key (n:Note):List Str:=[n.nm,n.house,n.path]
structure Good (n:Note):Prop where
 nm:n.nm∈nms
 w:n.w∈wts
 house:n.house∈En
 path:n.path∈pths
 R:n.R=a_ "any"∨n.R=a_ "near"
 ends:∀ i,n.ends=some i→0≤i∧i≤59
 mk0:0≤n.md
 mu:n.md≤n.us
 us:n.us≤99
theorem EE {n:Note} (g:Good n):Mo (eO n.ends):=by
 cases h:n.ends with
 | none=>exact .inl rfl
 | some i=>exact .inr ⟨i,(g.ends i h).1,by have:=(g.ends i h).2; omega,rfl⟩
theorem B4 {n:Note} (g:Good n):cr [enc n]=bo true:=by
 have e0:c0 [enc n,.int 10]=bo true:=by kernel_rfl
 have e1:=yC g.mk0 (by have:=g.mu; have:=g.us; omega)
 have e2:=yC (Int.le_trans g.mk0 g.mu) (by have:=g.us; omega)
 have e3:aD [eO n.ends]=bo true:=B1 (EE g)
 unfold enc at e0 ⊢
 simp [cr,bV,eY,bn,sq,dI,bh,c9,bnd,bOr,gw,fB,toB,ah,aa,ae,ac,fC,f1,f2,ixD,atD,dD,fB1,jm,fT,e0,e1,e2,Ge g.nm,Gf g.w,Gg g.house,Gh g.path,e3,(yD g.R).1,oz,jj,leX,g.mu]
def signs0:List Str:=nms ++ (wts ++ (En ++ (pths ++ [a_ "any",a_ "near"])))
theorem yE:(signs0.all fun x=>G4 (.str x))=true:=by kernel_rfl
theorem lb {x:Str} (h:x∈signs0):G4 (.str x)=true:=el (p:=fun x=>G4 (.str x)) yE h
theorem EF (o:Option Int):It1 0 (eO o):=by cases o; exact BS; exact it_int
theorem Good.sR {n:Note} (g:Good n):n.R∈signs0:=by
 unfold signs0
 rcases g.R with h | h <;> rw [h] <;> simp
theorem nW {n:Note} (g:Good n):It1 1 (enc n):=by
 refine k7 (k:=0) fun d hd=>?_
 simp only [p_,G_,or_false] at hd
 rcases hd with rfl | rfl | rfl | rfl | rfl | rfl | rfl | rfl | rfl | rfl
 · exact fV (lb (by simp [signs0,g.nm]))
 · exact fV (lb (by simp [signs0,g.w]))
 · exact fV (lb (by simp [signs0,g.house]))
 · exact BR
 · exact fV (lb (by simp [signs0,g.path]))
 · exact EF _
 · exact BR
 · exact fV (lb g.sR)
 · exact it_int
 · exact it_int
theorem o7 {n:Note} (g:Good n):It1 1 (ek n):=by
 refine k7 (k:=0) fun d hd=>?_
 simp only [p_,G_,or_false] at hd
 rcases hd with rfl | rfl | rfl
 · exact fV (lb (by simp [signs0,g.nm]))
 · exact fV (lb (by simp [signs0,g.house]))
 · exact fV (lb (by simp [signs0,g.path]))
theorem rS (a b:Note):GN (bp (ek a)) (bp (ek b))=decide (key a=key b):=by
 rw [G2]
 simp [ek,key,bp,toPys,GN,HX]
theorem B5 (a b:Option Int):GN (bp (eO a)) (bp (eO b))=decide (a=b):=by
 cases a <;> cases b <;> simp [eO,bp,GN]
 rw [G2]; simp
theorem yF (a b:Note):GN (bp (enc a)) (bp (enc b))=decide (a=b):=by
 rw [G2]
 have e:=B5 a.ends b.ends
 cases a; cases b
 simp [enc,bp,toPys,GN,HX,e]
theorem yG {a b:Note} (ga:Good a) (gb:Good b):eqX (ek a) (ek b)=bo (decide (key a=key b))∧neX (ek a) (ek b)=bo (!decide (key a=key b)):=by
 have h1:=(o7 ga).okP (by omega)
 have h2:=(o7 gb).okP (by omega)
 have h3:=rS a b
 have h0:eqS (ek a) (ek b)=none:=rfl
 constructor
 · unfold eqX; rw [h0,h1,h2,h3]; rfl
 · unfold neX; rw [h0,h1,h2,h3]; rfl
def ej (js:List Note):Dv:=.tup (js.map enc)
structure Jar (js:List Note):Prop where
 g:∀ n∈js,Good n
 s:∀ i (h:i + 1 < js.length),js[i].md≤js[i + 1].md
 k:(js.map key).Nodup
 l:js.length≤18
theorem v6 {α β:Type} {o:Option (Rs α)} {a:α} {k:α→Option (Rs β)} (h:o=some (.ok a)):bnd o k=k a:=by rw [h]; rfl
theorem jH:∀ (n:Nat) (lo:Int),rng lo n=(h_ n).map fun i:Nat=>Dv.int (lo + (i:Int))
 | 0,lo=>rfl
 | n + 1,lo=>by
  rw [MK]
  show Dv.int lo :: rng (lo + 1) n=_
  rw [jH n (lo + 1)]
  simp only [t_,G7]
  congr 1
  · simp
  · congr 1
    funext i
    simp only [JV]
    congr 1
    omega
theorem bz {f g:dJ} {ρ ρ':Ev} {ds ds':List Dv} (h:f ρ ds=some (.nx ρ' ds')):cD f g ρ ds=g ρ' ds':=by unfold cD; rw [h]
theorem fI {j:Nat} {f:FnE} {ρ ρ':Ev} {ds:List Dv} {d:Dv} (h:f ρ=some (.ok d)) (e:ρ.set j (some d)=ρ'):cK j f ρ ds=some (.nx ρ' ds):=by unfold cK; rw [h,← e]; rfl
theorem dA {xs:List Dv} {i:Nat} {ρ:Ev} (h:ρ[i]?=some (some (.lst xs))):bj (ac i) ρ=some (.ok xs):=by
 unfold bj ac
 rw [h]
 rfl
theorem fW {js:List Note} {i:Nat} {ρ:Ev} (h:ρ[i]?=some (some (ej js))):bj (ac i) ρ=some (.ok (js.map enc)):=by
 unfold bj ac
 rw [h]
 rfl
theorem rT {xs:List Note} (hg:∀ o∈xs,Good o):It1 2 (.lst (xs.map enc)):=v4 fun d hd=>by
 obtain ⟨x,hx,rfl⟩:=Go.mp hd
 exact nW (hg x hx)
theorem EG {xs:List Note} (hg:∀ o∈xs,Good o):It1 2 (ej xs):=k7 fun d hd=>by
 obtain ⟨x,hx,rfl⟩:=Go.mp hd
 exact nW (hg x hx)
theorem nil_eq {xs:List Note} (hg:∀ o∈xs,Good o):eqX (.lst (xs.map enc)) (.lst [])=bo xs.isEmpty:=by
 cases xs with
 | nil=>kernel_rfl
 | cons o rest =>
  have i2:=(rT hg).okP (by omega)
  have i3:okP (.lst [])=true:=by kernel_rfl
  unfold eqX
  rw [show eqS (.lst ((o :: rest).map enc)) (.lst [])=none from rfl,i2,i3]
  simp [bp,toPys,GN,HX]
theorem lc:∀ l:List Int,imms (l.map Dv.int)=true
 | []=>rfl
 | i :: l=>by show (imm (.int i) && imms (l.map Dv.int))=true; rw [lc l]; rfl
theorem rV (a b:Int):bb (.int a) (.int b)=some (.ok (.int (a + b))):=rfl
structure JI (B:Nat) (js:List Note) (now:Int):Prop where
 g:∀ n∈js,Good n
 s:js.Pairwise fun a b=>a.md≤b.md
 k:(js.map key).Nodup
 l:js.length≤B
 n0:0≤now
 n1:now≤3 * B
 m:∀ n∈js,n.md≤now
 u:∀ n∈js,n.us≤39
theorem JI.keep {B:Nat} {js:List Note} {now d:Int} (J:JI B js now) (h0:0≤d) (h1:d < 4):JI (B + 1) js (now + d) :=
 ⟨J.g,J.s,J.k,by have:=J.l; omega,by have:=J.n0; omega,by have:=J.n1; omega,fun n hn=>by have:=J.m n hn; omega,J.u⟩
theorem JI.add {B:Nat} {js:List Note} {now d:Int} {n:Note} (J:JI B js now) (h0:0≤d) (h1:d < 4) (g:Good n) (hu:n.us≤39) (hm:n.md=now + d) (hf:js.filter (fun o=>decide (key o=key n))=[]):JI (B + 1) (js ++ [n]) (now + d):=by
 have hk:∀ o∈js,key o≠key n:=fun o ho e=>by
  have:o∈js.filter (fun o=>decide (key o=key n)):=G1.mpr ⟨ho,by simp [e]⟩
  rw [hf] at this; cases this
 refine ⟨fun x hx=>?_,?_,?_,by have:=J.l; simp; omega,by have:=J.n0; omega,by have:=J.n1; omega,fun x hx=>?_,fun x hx=>?_⟩
 · rcases F_.mp hx with h | h
   · exact J.g x h
   · rw [Gr.mp h]; exact g
 · refine JB.mpr ⟨J.s,Mr ..,fun a ha b hb=>?_⟩
   rw [Gr.mp hb,hm]
   have:=J.m a ha
   omega
 · rw [GB]
   refine Js.mpr ⟨J.k,by simp,fun a ha b hb e=>?_⟩
   obtain ⟨o,ho,rfl⟩:=Go.mp ha
   simp only [t_,JH,Gr] at hb
   exact hk o ho (e.trans hb)
 · rcases F_.mp hx with h | h
   · have:=J.m x h; omega
   · rw [Gr.mp h,hm]; omega
 · rcases F_.mp hx with h | h
   · exact J.u x h
   · rw [Gr.mp h]; exact hu
theorem JI.jar {B:Nat} {js:List Note} {now:Int} (J:JI B js now) (hB:B≤18):Jar js :=
 ⟨J.g,fun i h=>JM.mp J.s i (i + 1) (by omega) h (by omega),J.k,by have:=J.l; omega⟩
def jb (ns:List Int) (z m now:Int):Ev:=[some (.scr ns),some (.int z),some (.int m),none,some (.int now),none,none,none,none,none,none,none,none,none,none,none]
def cJ:FnB:=(fB (f2 eqX (aO [("_law_note",15)] (bj (ac 3)) (some (fB (f2 eqX (bc (aa (f2 ixD (ac 0) (fC (.int 0))) (aa (f2 ixD (ac 0) (fC (.int 2))) (aa (f2 ixD (ac 0) (fC (.int 4))) ae)))) (bc (aa (f2 ixD (ac 1) (fC (.int 0))) (aa (f2 ixD (ac 1) (fC (.int 2))) (aa (f2 ixD (ac 1) (fC (.int 4))) ae))))))) (ac 0)) (dD ae)))
theorem EH {js:List Note} {n:Note} {ρ:Ev} (hg:∀ o∈js,Good o) (gn:Good n) (hl:js.length≤18) (h3:ρ[3]?=some (some (.lst (js.map enc)))) (h15:ρ[15]?=some (some (enc n))):cJ ρ=some (.ok (js.filter (fun o=>decide (key o=key n))).isEmpty):=by
 have hc:sI [("_law_note",15)] ρ=[none,some (enc n)]:=by simp [sI,h15]
 have e1:=cQ (cs:=[("_law_note",15)]) (src:=bj (ac 3)) (tst:=(fB (f2 eqX (bc (aa (f2 ixD (ac 0) (fC (.int 0))) (aa (f2 ixD (ac 0) (fC (.int 2))) (aa (f2 ixD (ac 0) (fC (.int 4))) ae)))) (bc (aa (f2 ixD (ac 1) (fC (.int 0))) (aa (f2 ixD (ac 1) (fC (.int 2))) (aa (f2 ixD (ac 1) (fC (.int 4))) ae))))))) (elt:=ac 0) (ρ:=ρ) enc (fun o=>decide (key o=key n)) enc (dA h3) (by omega) fun o ho=>⟨by
  rw [hc]
  exact bX ((a5 (x:=ek o) (y:=ek n) rfl rfl).trans (yG (hg o ho) gn).1),by rw [hc]; rfl⟩
 exact bX ((a5 e1 rfl).trans (nil_eq fun o ho=>hg o (G1.mp ho).1))
theorem rW (ns:List Int) (hl:ns.length≤63) (z m now k:Int) {B:Nat} {js:List Note} (J:JI B js now) (hB:B≤10) :
 ∃ ρ' js' now',aK ((jb ns z m now).set 5 (some (.int k))) (js.map enc)=some (.nx ρ' (js'.map enc))∧fgt [5,6,7,8,9,10,11,12,13,14,15] ρ'=jb ns z m now'∧JI (B + 1) js' now':=by
 obtain ⟨here,hh⟩:∃ here,here=z + 1 + 14 * k:=⟨_,rfl⟩
 obtain ⟨d0,a0,b0,e0⟩:=bf ns hl here 4 (by omega)
 obtain ⟨d1,a1,b1,e1⟩:=bf ns hl (here + 1) 4 (by omega)
 obtain ⟨d2,a2,b2,e2⟩:=bf ns hl (here + 2) 3 (by omega)
 obtain ⟨d4,a4,b4,e4⟩:=bf ns hl (here + 4) 2 (by omega)
 obtain ⟨d6,a6,b6,e6⟩:=bf ns hl (here + 6) 2 (by omega)
 obtain ⟨d7,a7,b7,e7⟩:=bf ns hl (here + 7) 60 (by omega)
 obtain ⟨d8,a8,b8,e8⟩:=bf ns hl (here + 8) 2 (by omega)
 obtain ⟨d9,a9,b9,e9⟩:=bf ns hl (here + 9) 3 (by omega)
 obtain ⟨d10,a10,b10,e10⟩:=bf ns hl (here + 10) 5 (by omega)
 obtain ⟨n3,hn3,e3⟩:=yA ns hl (here + 3)
 obtain ⟨p5,hp5,e5⟩:=yB ns hl (here + 5)
 obtain ⟨x1,m1,i1⟩:=nV (l:=[.str "n",.str "m-1",.str "safe-a",.str "N_2"]) a1 b1
 obtain ⟨x2,m2,i2⟩:=nV (l:=[.str "5",.str "",.str "a!b~"]) a2 b2
 obtain ⟨x6,m6,i6⟩:=nV (l:=[.non,.int d7]) a6 b6
 obtain ⟨x9,m9,i9⟩:=nV (l:=[.str "any",.str "any",.str "near"]) a9 b9
 have g1:∃ nm∈nms,x1=.str nm:=by
  simp only [p_,G_,or_false] at m1
  rcases m1 with rfl | rfl | rfl | rfl <;> exact ⟨_,by simp [nms],rfl⟩
 have g2:∃ nm∈wts,x2=.str nm:=by
  simp only [p_,G_,or_false] at m2
  rcases m2 with rfl | rfl | rfl <;> exact ⟨_,by simp [wts],rfl⟩
 have g6:∃ o:Option Int,(∀ i,o=some i→0≤i∧i≤59)∧x6=eO o:=by
  simp only [p_,G_,or_false] at m6
  rcases m6 with rfl | rfl
  · exact ⟨none,by simp,rfl⟩
  · exact ⟨some d7,fun i hi=>by cases hi; omega,rfl⟩
 have g9:∃ R,(R=a_ "any"∨R=a_ "near")∧x9=.str R:=by
  simp only [p_,G_,or_false] at m9
  rcases m9 with rfl | rfl | rfl
  · exact ⟨_,.inl rfl,rfl⟩
  · exact ⟨_,.inl rfl,rfl⟩
  · exact ⟨_,.inr rfl,rfl⟩
 obtain ⟨nm,hnm,rfl⟩:=g1
 obtain ⟨w,hw,rfl⟩:=g2
 obtain ⟨o,ho,rfl⟩:=g6
 obtain ⟨R,hR,rfl⟩:=g9
 let n:Note:=⟨nm,w,n3,d4 == 0,p5,o,d8 == 0,R,now + d0,now + d0 + d10⟩
 have q0:=J.n0
 have q1:=J.n1
 have gn:Good n:=⟨hnm,hw,me hn3,hp5,hR,ho,by show 0≤now + d0; omega,by show now + d0≤now + d0 + d10; omega,by show now + d0 + d10≤99; omega⟩
 let E15:Ev:=[some (.scr ns),some (.int z),some (.int m),none,some (.int (now + d0)),some (.int k),some (.int here),some (.str nm),some (.str w),some (eO o),some (.bl (d4 == 0)),some (.tup [.str nm,.str w,.str n3,.bl (d4 == 0),.str p5]),some (.str R),some (.bl (d8 == 0)),some (.int (now + d0 + d10)),some (enc n)]
 have hc:=EH (ρ:=E15.set 3 (some (.lst (js.map enc)))) J.g gn (by have:=J.l; omega) rfl rfl
 have hmul:fQ (.int 14) (.int k)=some (.ok (.int (14 * k))):=k9 (.inl (by omega))
 have hrun:aK ((jb ns z m now).set 5 (some (.int k))) (js.map enc)=ud 3 cJ (lI (ac 15)) qt E15 (js.map enc):=by
  have eB:aK=(cD (cK 6 (f2 bb (f2 bb (ac 1) (fC (.int 1))) (f2 fQ (fC (.int 14)) (ac 5)))) (cD (cK 4 (f2 bb (ac 4) (ah ag 3 (aa (ac 0) (aa (ac 6) (aa (fC (.int 4)) ae)))))) (cD (cK 7 (f2 ixD (dD (aa (fC (.str "n")) (aa (fC (.str "m-1")) (aa (fC (.str "safe-a")) (aa (fC (.str "N_2")) ae))))) (ah ag 3 (aa (ac 0) (aa (f2 bb (ac 6) (fC (.int 1))) (aa (fC (.int 4)) ae)))))) (cD (cK 8 (f2 ixD (dD (aa (fC (.str "5")) (aa (fC (.str "")) (aa (fC (.str "a!b~")) ae)))) (ah ag 3 (aa (ac 0) (aa (f2 bb (ac 6) (fC (.int 2))) (aa (fC (.int 3)) ae)))))) (cD (cK 9 (f2 ixD (dD (aa (fC .non) (aa (ah ag 3 (aa (ac 0) (aa (f2 bb (ac 6) (fC (.int 7))) (aa (fC (.int 60)) ae)))) ae))) (ah ag 3 (aa (ac 0) (aa (f2 bb (ac 6) (fC (.int 6))) (aa (fC (.int 2)) ae)))))) (cD (cK 10 (f2 eqX (ah ag 3 (aa (ac 0) (aa (f2 bb (ac 6) (fC (.int 4))) (aa (fC (.int 2)) ae)))) (fC (.int 0)))) (cD (cK 11 (bc (aa (ac 7) (aa (ac 8) (aa (ah cg 2 (aa (ac 0) (aa (f2 bb (ac 6) (fC (.int 3))) ae))) (aa (ac 10) (aa (ah ci 2 (aa (ac 0) (aa (f2 bb (ac 6) (fC (.int 5))) ae))) ae))))))) (cD (cK 12 (f2 ixD (dD (aa (fC (.str "any")) (aa (fC (.str "any")) (aa (fC (.str "near")) ae)))) (ah ag 3 (aa (ac 0) (aa (f2 bb (ac 6) (fC (.int 9))) (aa (fC (.int 3)) ae)))))) (cD (cK 13 (f2 eqX (ah ag 3 (aa (ac 0) (aa (f2 bb (ac 6) (fC (.int 8))) (aa (fC (.int 2)) ae)))) (fC (.int 0)))) (cD (cK 14 (f2 bb (ac 4) (ah ag 3 (aa (ac 0) (aa (f2 bb (ac 6) (fC (.int 10))) (aa (fC (.int 5)) ae)))))) (cD (cK 15 (f2 bb (ac 11) (bc (aa (ac 9) (aa (ac 13) (aa (ac 12) (aa (ac 4) (aa (ac 14) ae)))))))) (ud 3 cJ (lI (ac 15)) qt)))))))))))):=rfl
  rw [eB]
  subst hh
  simp [jb,cD,cK,pc,bnd,ah,aa,ae,ac,fC,f2,bc,dD,rV,hmul,e0,e1,e2,e3,e4,e5,e6,e7,e8,e9,e10,i1,i2,i6,i9,eqX,eqS,E15,enc,n]
  simp [bb]
 rw [hrun]
 cases hf:(js.filter (fun o=>decide (key o=key n))) with
 | nil =>
  rw [hf] at hc
  refine ⟨E15,js ++ [n],now + d0,?_,rfl,J.add a0 b0 gn (by show now + d0 + d10≤39; omega) rfl hf⟩
  unfold ud
  rw [hc]
  show (if (js.map enc).length < 100000 then _ else _)=_
  rw [if_pos (by have:=J.l; simp; omega)]
  show some (Fo.nx _ (js.map enc ++ [enc n]))=_
  simp
 | cons c r =>
  rw [hf] at hc
  refine ⟨E15,js,now + d0,?_,rfl,J.keep a0 b0⟩
  unfold ud
  rw [hc]
  rfl
theorem nX (ns:List Int) (hl:ns.length≤63) (z m:Int):∀ (ks:List Int) (ρ:Ev) (now:Int) (B:Nat) (js:List Note),B + ks.length≤10→fgt [5,6,7,8,9,10,11,12,13,14,15] ρ=jb ns z m now→JI B js now →
 ∃ js' now',eN 5 [5,6,7,8,9,10,11,12,13,14,15] aK (ks.map Dv.int) ρ (js.map enc)=some (.nx (jb ns z m now') (js'.map enc))∧JI (B + ks.length) js' now'
 | [],ρ,now,B,js,_,hρ,J=>⟨js,now,by show some (Fo.nx _ _)=_; rw [hρ],J⟩
 | k :: ks,ρ,now,B,js,hb,hρ,J=>by
  simp only [Gu] at hb
  obtain ⟨ρ',js',now',e,hρ',J'⟩:=rW ns hl z m now k J (by omega)
  obtain ⟨js2,now2,e2,J2⟩:=nX ns hl z m ks ρ' now' (B + 1) js' (by omega) hρ' J'
  refine ⟨js2,now2,?_,by rw [Gu,show B + (ks.length + 1)=B + 1 + ks.length by omega]; exact J2⟩
  show (match aK ((fgt _ ρ).set 5 (some (.int k))) (js.map enc) with
   | some (.nx ρ' xs')=>eN 5 _ aK (ks.map Dv.int) ρ' xs'
   | o=>o)=_
  rw [hρ,e]
  exact e2
theorem rX (ns:List Int) (hl:ns.length≤63) (z:Int) (m:Nat) (hm:m≤8):∃ js now,aM [.scr ns,.int z,.int m]=some (.ok (ej js))∧Jar js∧js.length≤m∧JI m js now:=by
 obtain ⟨d,a0,b0,e0⟩:=bf ns hl z (m + 1) (by omega)
 obtain ⟨c,rfl⟩:∃ c:Nat,d=(c:Int):=⟨d.toNat,by omega⟩
 have hr:lF [.int (c:Int)]=some (.ok (((h_ c).map fun i:Nat=>(i:Int)).map Dv.int)):=by
  rw [v3 (by omega),jH]
  simp
 obtain ⟨js,now,e,J⟩:=nX ns hl z m ((h_ c).map fun i:Nat=>(i:Int)) (jb ns z m 0) 0 0 [] (by simp; omega) rfl ⟨by simp,Jt,by simp,by simp,by omega,by omega,by simp,by simp⟩
 have hlen:((h_ c).map fun i:Nat=>(i:Int)).length=c:=by simp
 rw [hlen] at J
 have J5:=J.l
 refine ⟨js,now,?_,J.jar (by omega),by omega,⟨J.g,J.s,J.k,by omega,J.n0,by have:=J.n1; omega,J.m,J.u⟩⟩
 refine c5 (d:=ej js) ?_
 show sJ 3 ae _ [some (.scr ns),some (.int z),some (.int m),none,none,none,none,none,none,none,none,none,none,none,none,none]=_
 have hsrc:(fun ρ=>bnd ((aa (ah ag 3 (aa (ac 0) (aa (ac 1) (aa (f2 bb (ac 2) (fC (.int 1))) ae)))) ae) ρ) lF) (jb ns z m 0)=some (.ok (((h_ c).map fun i:Nat=>(i:Int)).map Dv.int)):=by
  have h:(aa (ah ag 3 (aa (ac 0) (aa (ac 1) (aa (f2 bb (ac 2) (fC (.int 1))) ae)))) ae) (jb ns z m 0)=some (.ok [.int (c:Int)]):=by
   simp [bnd,aa,ae,ah,fC,ac,f2,jb,rV,e0]
  exact (v6 (k:=lF) h).trans hr
 have hfor:m8 5 [5,6,7,8,9,10,11,12,13,14,15] (fun ρ=>bnd ((aa (ah ag 3 (aa (ac 0) (aa (ac 1) (aa (f2 bb (ac 2) (fC (.int 1))) ae)))) ae) ρ) lF) aK (jb ns z m 0) []=some (.nx (jb ns z m now) (js.map enc)):=by
  unfold m8
  rw [hsrc]
  show (if imms (((h_ c).map fun i:Nat=>(i:Int)).map Dv.int)=true then _ else none)=_
  rw [if_pos (lc _)]
  exact e
 have hle:js.length≤100000:=by omega
 have hret:vI 3 (fB1 dN (aa (ac 3) ae)) (jb ns z m now) (js.map enc)=some (.rt (ej js)):=by
  unfold vI
  rw [dj (aj (x:=.lst (js.map enc)) rfl aG)]
  rfl
 have hbody:(cD (cK 4 (fC (.int 0))) (cD (m8 5 [5,6,7,8,9,10,11,12,13,14,15] (fun ρ=>bnd ((aa (ah ag 3 (aa (ac 0) (aa (ac 1) (aa (f2 bb (ac 2) (fC (.int 1))) ae)))) ae) ρ) lF) aK) (vI 3 (fB1 dN (aa (ac 3) ae))))) [some (.scr ns),some (.int z),some (.int m),none,none,none,none,none,none,none,none,none,none,none,none,none] []=some (.rt (ej js)):=by
  rw [bz (show cK 4 (fC (.int 0)) [some (.scr ns),some (.int z),some (.int m),none,none,none,none,none,none,none,none,none,none,none,none,none] []=some (.nx (jb ns z m 0) []) from rfl)]
  rw [bz hfor]
  exact hret
 unfold sJ
 show (if ([]:List Dv).length≤100000 then _ else none)=_
 rw [if_pos (by simp)]
 exact (congrArg (fun o=>match o with | some (Fo.nx ρ' ds')=>some (Fl.nx (List.set ρ' 3 (some (Dv.lst ds')))) | some (Fo.rt d)=>some (Fl.rt d) | none=>none) hbody).trans rfl
theorem c6 (n:Note):bP [enc n]=some (.ok (ek n)):=by simp [bP,bV,uU,bh,c9,bnd,aa,ae,ac,fC,f2,ixD,atD,bc,enc,ek]
theorem lf:∀ js:List Note,gM (js.map ek)=some (js.map key)
 | []=>rfl
 | n :: js=>by
  show (match aV [.str n.nm,.str n.house,.str n.path],gM (js.map ek) with | some k,some ks=>some (k :: ks) | _,_=>none)=_
  rw [lf js]
  rfl
theorem rY {js:List Note}:((ST.ddk (js.map key)).length == js.length)=decide ((js.map key).Nodup):=by
 have:=ST.ddk_eq (js.map key)
 rw [Gw] at this
 rw [G2]
 simp [this]
theorem yH {js:List Note} (hl:js.length≤18):aX [ej js]=bo (decide ((js.map key).Nodup)):=by
 have e1:aY 1 [] (bj (ac 0)) (gN 0) none (ah bP 1 (aa (ac 0) ae)) [some (ej js),none]=some (.ok (.lst (js.map ek))) :=
  kZ enc ek (fW rfl) (by omega) fun n hn=>cz bP rfl (c6 n)
 have e2:gQ [.lst (js.map ek)]=some (.ok (.int (ST.ddk (js.map key)).length)):=by
  show (match gM (js.map ek) with | some ks=>if ks.length≤20 then (some (.ok (.int (ST.ddk ks).length)):Option (Rs Dv)) else none | none=>none)=_
  rw [lf]
  dsimp only
  rw [if_pos (by simp; omega)]
 refine c5 ?_
 show aN [some (ej js),none]=_
 unfold aN
 rw [ay (aZ (ρ':=[some (ej js),some (.lst (js.map ek))]) e1 rfl)]
 refine gz ((a5 ((dj (aj (x:=.lst (js.map ek)) rfl aG)).trans e2) (y:=.int js.length) (by show some (Rs.ok (Dv.int ((js.map ek).length:Int)))=_; rw [Gw])).trans ?_)
 show some (Rs.ok (Dv.bl (((ST.ddk (js.map key)).length:Int) == (js.length:Int))))=_
 rw [← rY]
 congr 3
 rw [G2]
 simp
 omega
theorem all_map {α:Type} (p:α→Bool) (l:List α):oz [.lst (l.map fun a=>Dv.bl (p a))]=bo (l.all p):=by
 unfold oz
 dsimp only
 rw [k6 p l]
 dsimp only
 rw [List.all_map]
 rfl
theorem uX {α:Type} (l:List α):oz [.lst (l.map fun _=>Dv.bl true)]=bo true:=by
 rw [all_map (fun _=>true) l]
 simp
theorem B6 {js:List Note} {i:Nat} (h:i < js.length):ixD (ej js) (.int i)=some (.ok (enc js[i])):=by
 show (match atD (js.map enc) (i:Int) with | some d=>_ | none=>_)=_
 unfold atD
 rw [if_pos (by omega)]
 simp [h]
theorem B7 (n:Note):ixD (enc n) (.int 8)=some (.ok (.int n.md)):=rfl
theorem B8 (js:List Note) (hl:js.length≤18):(fun ρ=>bnd ((aa (fC (.int 1)) (aa (fB1 fR (aa (ac 0) ae)) ae)) ρ) sZ) [some (ej js)]=some (.ok ((h_ (js.length - 1)).map fun i:Nat=>Dv.int (1 + (i:Int)))):=by
 have h:(aa (fC (.int 1)) (aa (fB1 fR (aa (ac 0) ae)) ae)) [some (ej js)]=some (.ok [.int 1,.int js.length]):=by
  simp [bnd,aa,ae,fB1,fC,ac,ej,fR]
 refine (v6 (k:=sZ) h).trans ?_
 rw [BQ (by omega),jH,show ((js.length:Int) - 1).toNat=js.length - 1 by omega]
def Fw:FnE:=(f2 leX (f2 ixD (f2 ixD (ac 1) (f2 zY (ac 0) (fC (.int 1)))) (fC (.int 8))) (f2 ixD (f2 ixD (ac 1) (ac 0)) (fC (.int 8))))
def sK (js:List Note) (i:Nat):Int:=(js[i]?.map Note.md).getD 0
def riB (js:List Note):Bool:=(h_ (js.length - 1)).all fun i=>decide (sK js i≤sK js (i + 1))
theorem jI {js:List Note} {i:Nat} (h:i < js.length):sK js i=js[i].md:=by
 unfold sK
 rw [n_ h]
 rfl
theorem B9 {js:List Note} {i:Nat} (hi':i + 1 < js.length):Fw [some (.int (1 + (i:Int))),some (ej js)]=some (.ok (.bl (decide (sK js i≤sK js (i + 1))))):=by
 have h1:f2 ixD (ac 1) (f2 zY (ac 0) (fC (.int 1))) [some (.int (1 + (i:Int))),some (ej js)]=some (.ok (enc js[i])):=by
  have q:=B6 (js:=js) (i:=i) (by omega)
  rw [show (i:Int)=1 + (i:Int) - 1 by omega] at q
  exact q
 have h2:f2 ixD (ac 1) (ac 0) [some (.int (1 + (i:Int))),some (ej js)]=some (.ok (enc js[i + 1])):=by
  have q:=B6 (js:=js) (i:=i + 1) hi'
  rw [show ((i + 1:Nat):Int)=1 + (i:Int) by omega] at q
  exact q
 rw [jI (show i < js.length by omega),jI hi']
 exact (a5 ((a5 h1 rfl).trans (B7 _)) ((a5 h2 rfl).trans (B7 _))).trans rfl
theorem Ca {js:List Note} (hl:js.length≤18):cB [ej js]=bo (riB js):=by
 have e:=bZ (cs:=[("notes",0)]) (src:=(fun ρ=>bnd ((aa (fC (.int 1)) (aa (fB1 fR (aa (ac 0) ae)) ae)) ρ) sZ)) (elt:=Fw) (ρ:=[some (ej js)]) (fun i:Nat=>Dv.int (1 + (i:Int))) (fun i:Nat=>Dv.bl (decide (sK js i≤sK js (i + 1)))) (B8 js hl) (by rw [KI]; omega) fun i hi=>B9 (by have:=Gy.mp hi; omega)
 exact c5 (d:=.bl (riB js)) (gz ((dj (aj e aG)).trans (all_map (fun i:Nat=>decide (sK js i≤sK js (i + 1))) _)))
def isJ (js:List Note):Bool:=riB js && decide ((js.map key).Nodup)
theorem EI {js:List Note} (hg:∀ n∈js,Good n) (hl:js.length≤18):bt [ej js]=bo (isJ js):=by
 have ta:aO [] (bj (ac 0)) none (ah cr 1 (aa (ac 0) ae)) [some (ej js)]=some (.ok (.lst (js.map fun _=>Dv.bl true))) :=
  bZ enc (fun _=>Dv.bl true) (fW rfl) (by omega) fun n hn=>cz cr rfl (B4 (hg n hn))
 have tb:(bOr (gw (fB (f1 (jm oA) (ac 0)))) (fB (f2 gtD (fB1 fR (aa (ac 0) ae)) (fC (.int 20))))) [some (ej js)]=some (.ok false):=by
  have e3:¬ (20 < (js.length:Int)):=by omega
  simp [bOr,gw,fB,f1,f2,jm,oA,ac,bnd,toB,fB1,aa,ae,fC,ej,fR,Dt,e3]
 have tc:fB1 oz (aa (aO [] (bj (ac 0)) none (ah cr 1 (aa (ac 0) ae))) ae) [some (ej js)]=bo true:=(dj (aj ta aG)).trans (uX js)
 refine c5 ?_
 show eZ [some (ej js)]=_
 unfold eZ
 rw [ay (bW tb)]
 rw [ay (bW (xg (k:=true) (bX tc)))]
 refine gz ?_
 have hm:=cz cB (f:=ac 0) (ρ:=[some (ej js)]) rfl (Ca hl)
 unfold isJ
 cases hr:riB js with
 | false=>rw [hr] at hm; rw [Ah hm]; rfl
 | true=>rw [hr] at hm; rw [Ai hm]; exact cz aX rfl (yH hl)
theorem Cb {js:List Note} (J:Jar js):isJ js=true:=by
 unfold isJ
 rw [g_,decide_eq_true_eq]
 refine ⟨Gv.mpr fun i hi=>?_,J.k⟩
 have hi':i + 1 < js.length:=by have:=Gy.mp hi; omega
 rw [decide_eq_true_eq,jI (show i < js.length by omega),jI hi']
 exact J.s i hi'
theorem rZ {js:List Note} (J:Jar js):bt [ej js]=bo true:=by rw [EI J.g J.l,Cb J]
end G
namespace G
open PySem PySem.Spec PyProof.Rows L2 FD TS
theorem Cc {k:Nat} {d:Dv} (h:It1 k d) (hk:k≤64):neX d d=some (.ok (.bl false)):=yy (h.okP hk) h.p
theorem iZ:∀ rs:List (List Dv),gW (rs.map Dv.tup)=some rs
 | []=>rfl
 | r :: rs=>by
  show (gW (rs.map Dv.tup)).map (r :: ·)=_
  rw [iZ rs]
  rfl
theorem i4 {α:Type} (r:α→List Dv) (sg:List Nat) (h1:∀ a,sig (r a)=sg) (h2:dZ sg=true) (h3:∀ a,uy (r a)=true) {xs:List α} (hl:xs.length < 64):eU [.lst (xs.map fun a=>.tup (r a))]=some (.ok (.lst ((aF (fun a b=>!ltL (r b) (r a)) xs).map fun a=>.tup (r a)))):=by
 have e0:(xs.map fun a=>Dv.tup (r a))=(xs.map r).map Dv.tup:=by rw [G7]; rfl
 have e1:((aF (fun a b=>!ltL (r b) (r a)) xs).map fun a=>Dv.tup (r a))=(aF (fun a b=>!ltL b a) (xs.map r)).map Dv.tup:=by
  rw [← sort_map (le:=fun a b=>!ltL (r b) (r a)) r xs fun _ _ _ _=>rfl,G7]
  rfl
 rw [e0,e1]
 show (match gW ((xs.map r).map Dv.tup) with
  | some rows=>if cA rows=true then some (Rs.ok (Dv.lst ((aF (fun a b=>!ltL b a) rows).map Dv.tup))) else none
  | none=>AT [.lst ((xs.map r).map Dv.tup)])=_
 rw [iZ]
 dsimp only
 rw [if_pos]
 unfold cA
 rw [g_,decide_eq_true_eq,Gv]
 refine ⟨by simpa using hl,fun q hq=>?_⟩
 obtain ⟨n,hn,rfl⟩:=Go.mp hq
 cases xs with
 | nil=>simp at hn
 | cons x xs=>simp [h1,h2,h3]
def EJ (n:Note):List Dv:=[.str n.nm,.str n.house,.str n.path]
def i5 (xs:List Note):Dv:=.lst ((aF (fun a b=>!ltL (EJ b) (EJ a)) xs).map ek)
theorem fJ {xs:List Note} (hl:xs.length < 64):eU [.lst (xs.map ek)]=some (.ok (i5 xs)):=i4 EJ [1,1,1] (fun _=>rfl) rfl (fun _=>rfl) hl
theorem mz {xs:List Note} (hg:∀ n∈xs,Good n):It1 2 (i5 xs):=v4 fun d hd=>by
 obtain ⟨n,hn,rfl⟩:=Go.mp hd
 rw [(aH _ _).mem_iff] at hn
 exact o7 (hg n hn)
def fY (ys:List Note) (n:Note):Bool:=ys.any fun m=>decide (key m=key n)
def CF (ys:List Note) (n:Note):Bool:=ys.any fun m=>decide (m=n)
theorem CG {ys:List Note} {n:Note} (gy:∀ m∈ys,Good m) (gn:Good n):inX (ek n) (.lst (ys.map ek))=bo (fY ys n)∧bB (ek n) (.lst (ys.map ek))=bo (!fY ys n):=by
 have:=BU (x:=ek n) (en:=ek) (l:=ys) (p:=fun m=>decide (key m=key n)) ((o7 gn).le (by omega)) rfl (fun a ha=>(o7 (gy a ha)).le (by omega)) fun a _=>rS a n
 exact ⟨this.1,this.2.1⟩
theorem Fx {ys:List Note} {n:Note} (gy:∀ m∈ys,Good m) (gn:Good n):bB (enc n) (ej ys)=bo (!CF ys n) :=
 (BU (x:=enc n) (en:=enc) (l:=ys) (p:=fun m=>decide (m=n)) ((nW gn).le (by omega)) rfl (fun a ha=>(nW (gy a ha)).le (by omega)) fun a _=>yF a n).2.2.2
theorem r8 {a b:FnB} {ρ:Ev} {x y:Bool} (ha:a ρ=some (.ok x)) (hb:b ρ=some (.ok y)):ow a b ρ=some (.ok (x && y)):=by
 unfold ow
 rw [ha]
 cases x with
 | true=>exact hb
 | false=>rfl
def fg (xs ys:List Note):List Note:=xs.filter fun n=>!fY ys n
def unN (xs ys:List Note):List Note:=xs.filter fun n=>fY ys n && !CF ys n
def chg (xs ys:List Note):Dv:=.tup [i5 (fg xs ys),i5 (fg ys xs),i5 (unN xs ys)]
theorem lg {xs ys:List Note} (h:∀ n∈xs,Good n):∀ n∈fg xs ys,Good n:=fun n hn=>h n (G1.mp hn).1
theorem uY {xs ys:List Note} (h:∀ n∈xs,Good n):∀ n∈unN xs ys,Good n:=fun n hn=>h n (G1.mp hn).1
theorem jJ {xs ys:List Note}:(fg xs ys).length≤xs.length:=Jq _ _
theorem r9 {xs ys:List Note}:(unN xs ys).length≤xs.length:=Jq _ _
theorem Cd {xs ys:List Note} (hx:∀ n∈xs,Good n) (hy:∀ n∈ys,Good n):It1 3 (chg xs ys):=k7 fun d hd=>by
 simp only [p_,G_,or_false] at hd
 rcases hd with rfl | rfl | rfl
 · exact mz (lg hx)
 · exact mz (lg hy)
 · exact mz (uY hx)
theorem fj {F:List Dv→Option (Rs Dv)} (hF:∀ n,F [enc n]=some (.ok (ek n))) {xs:List Note} {ρ:Ev} {i:Nat} (hl:xs.length≤100) (h:ρ[i]?=some (some (ej xs))):aO [] (bj (ac i)) none (ah F 1 (aa (ac 0) ae)) ρ=some (.ok (.lst (xs.map ek))) :=
 bZ enc ek (fW h) (by omega) fun n _=>cz F rfl (hF n)
theorem gl {xs ys:List Note} {ρ:Ev} {i j:Nat} {s:Str} (hl:xs.length≤50) (hx:∀ n∈xs,Good n) (hy:∀ n∈ys,Good n) (h1:ρ[i]?=some (some (.lst (xs.map ek)))) (h2:ρ[j]?=some (some (.lst (ys.map ek)))) :
 fB1 eU (aa (aO [(s,j)] (bj (ac i)) (some (fB (f2 bB (ac 0) (ac 1)))) (ac 0)) ae) ρ=some (.ok (i5 (fg xs ys))):=by
 have hc:∀ d,(sI [(s,j)] ρ).set 0 (some d)=[some d,some (.lst (ys.map ek))]:=fun d=>by simp [sI,h2]
 have e:=cQ (cs:=[(s,j)]) (src:=bj (ac i)) (tst:=fB (f2 bB (ac 0) (ac 1))) (elt:=ac 0) (ρ:=ρ) ek (fun n=>!fY ys n) ek (dA h1) (by omega) fun n hn=>⟨by rw [hc]; exact bX ((a5 (x:=ek n) rfl rfl).trans (CG hy (hx n hn)).2),by rw [hc]; rfl⟩
 exact (dj (aj e aG)).trans (fJ (by have:=jJ (xs:=xs) (ys:=ys); show (fg xs ys).length < 64; omega))
section
variable {J a:Dv} {c:Nat}
theorem yT (h:bt [J]=bo true):ax [J]=some (.ok .non):=by simp [ax,mV,cu,bn,sq,dI,bh,eI,c9,bnd,gw,fB,toB,ah,aa,ae,ac,fC,iC,h]
theorem CH (h:bt [J]=bo false):ax [J]=some (.exc 5):=by simp [ax,mV,cu,bn,sq,dI,bh,eI,c9,bnd,gw,fB,toB,ah,aa,ae,ac,fC,iC,h]
theorem dY (F:List Dv→Option (Rs Dv)) {f:FnE} {ρ:Ev} (hf:f ρ=some (.ok a)) (h:F [a]=some (.ok .non)):eI (bH F 1 (aa f ae)) ρ=some (.nx ρ):=tI (cE F (aj hf aG) rfl h)
theorem dX (F:List Dv→Option (Rs Dv)) {f:FnE} {ρ:Ev} (hf:f ρ=some (.ok a)) (h:F [a]=some (.exc c)):eI (bH F 1 (aa f ae)) ρ=some (.exc c):=Gd (cE F (aj hf aG) rfl h)
end
theorem o8 {xs ys:List Note} (Jx:Jar xs) (Jy:Jar ys):bd [ej xs,ej ys]=some (.ok (chg xs ys)):=by
 have lx:=Jx.l
 have ly:=Jy.l
 refine BV ?_
 show bM [some (ej xs),some (ej ys),none,none,none,none,none]=_
 unfold bM
 rw [ay (dY ax rfl (yT (rZ Jx))),ay (dY ax rfl (yT (rZ Jy)))]
 rw [ay (aZ (fj c6 (xs:=xs) (by omega) rfl) rfl)]
 simp only [D_,C_]
 rw [ay (aZ (fj c6 (xs:=ys) (by omega) rfl) rfl)]
 simp only [D_,C_]
 rw [ay (aZ (gl (xs:=xs) (ys:=ys) (by omega) Jx.g Jy.g rfl rfl) rfl)]
 simp only [D_,C_]
 rw [ay (aZ (gl (xs:=ys) (ys:=xs) (by omega) Jy.g Jx.g rfl rfl) rfl)]
 simp only [D_,C_]
 have e:=cQ (cs:=[("other",1),("others",3)]) (src:=bj (ac 0)) (tst:=ow (fB (f2 inX (ah bP 1 (aa (ac 0) ae)) (ac 2))) (fB (f2 bB (ac 0) (ac 1)))) (elt:=ah bP 1 (aa (ac 0) ae)) (ρ:=[some (ej xs),some (ej ys),some (.lst (xs.map ek)),some (.lst (ys.map ek)),some (i5 (fg xs ys)),some (i5 (fg ys xs)),none]) enc (fun n=>fY ys n && !CF ys n) ek (fW rfl) (by omega) fun n hn =>
  ⟨r8 (bX ((a5 (x:=ek n) (cz bP rfl (c6 n)) rfl).trans (CG Jy.g (Jx.g n hn)).1)) (bX ((a5 (x:=enc n) (y:=ej ys) rfl rfl).trans (Fx Jy.g (Jx.g n hn)))),cz bP rfl (c6 n)⟩
 rw [ay (aZ ((dj (aj e aG)).trans (fJ (by have:=r9 (xs:=xs) (ys:=ys); show (unN xs ys).length < 64; omega))) rfl)]
 rfl
def wl (n:Note):List Int:=[n.us,n.md]
def bU (a b:Note):Note:=if ri (wl b) (wl a)=true then b else a
theorem Ce (n:Note):aT [enc n]=some (.ok (.tup [.int n.us,.int n.md])):=by simp [aT,bV,c4,bh,c9,bnd,aa,ae,ac,fC,f2,ixD,atD,bc,enc]
theorem v7 (a b:Note):gtT (.tup [.int b.us,.int b.md]) (.tup [.int a.us,.int a.md])=bo (ri (wl b) (wl a)):=rfl
theorem later_of (a b:Note):cO [enc a,enc b]=some (.ok (enc (bU a b))):=by
 have hc:fB (f2 gtT (ah aT 1 (aa (ac 1) ae)) (ah aT 1 (aa (ac 0) ae))) [some (enc a),some (enc b)]=some (.ok (ri (wl b) (wl a))):=bX ((a5 (cz aT rfl (Ce b)) (cz aT rfl (Ce a))).trans (v7 a b))
 refine c5 ?_
 show cM [some (enc a),some (enc b)]=_
 unfold cM bU
 cases h:ri (wl b) (wl a) with
 | true =>
  rw [h] at hc
  exact xf (EC hc)
 | false =>
  rw [h] at hc
  rw [ay (bW hc)]
  rfl
def kvN (l:List Note):Kv:=l.map fun n=>(key n,enc n)
def ij (l:List Note) (m:Note):List Note:=if fY l m=true then l.map (fun o=>if key o=key m then m else o) else l ++ [m]
theorem v8 (l:List Note) (m:Note):vZ (kvN l) (key m) (enc m)=kvN (ij l m):=by
 have e:((kvN l).any fun p=>decide (p.1=key m))=fY l m:=by
  unfold kvN fY
  rw [List.any_map]
  rfl
 unfold vZ ij
 rw [e]
 split
 · unfold kvN
   rw [G7,G7]
   apply HL
   intro o _
   simp only [JV]
   split
   · rename_i h
     rw [h]
   · rfl
 · simp [kvN]
def nY (l:List Note) (n:Note):Option Note:=l.find? fun o=>decide (key o=key n)
theorem v9 (n:Note):∀ l:List Note,rq (kvN l) (key n)=(nY l n).map enc
 | []=>rfl
 | o :: l=>by
  have ih:=v9 n l
  unfold rq kvN nY at *
  simp only [t_,Ig]
  by_cases h:key o=key n
  · simp [h]
  · simp only [h,decide_false]
    exact ih
theorem jK {l:List Note} {n o:Note} (h:nY l n=some o):key o=key n∧o∈l:=by
 have h1:=MS h
 exact ⟨by simpa using h1,LK h⟩
theorem dB (a b:Note):bU a b=a∨bU a b=b:=by
 unfold bU
 split
 · exact .inr rfl
 · exact .inl rfl
def sd (l:List Note) (n:Note):Note:=bU ((nY l n).getD n) n
theorem jL (l:List Note) (n:Note):key (sd l n)=key n:=by
 unfold sd
 rcases dB ((nY l n).getD n) n with e | e
 · rw [e]
   cases h:nY l n with
   | none=>rfl
   | some o=>exact (jK h).1
 · rw [e]
def se (l:List Note) (n:Note):List Note:=ij l (sd l n)
theorem jM (l:List Note) (m:Note):(ij l m).length≤l.length + 1:=by
 unfold ij
 split
 · simp
 · simp
def E5 (x y:Dv) (z:Option Dv):Ev:=[some x,some y,none,z,none]
theorem Cf (x y:Dv) (n:Note) (l:List Note) (h:l.length < 1000):bE (E5 x y (some (enc n))) (kvN l)=some (E5 x y (some (enc n)),kvN (ij l n)):=by
 have e1:ah bP 1 (aa (ac 3) ae) (E5 x y (some (enc n)))=some (.ok (ek n)):=cz bP rfl (c6 n)
 unfold bE yh
 rw [e1]
 show (if (kvN l).length < 100000 then some (E5 x y (some (enc n)),vZ (kvN l) (key n) (enc n)) else none)=_
 rw [if_pos (by simp [kvN]; omega),v8]
theorem wa (x y:Dv):∀ (xs l:List Note) (z:Option Dv),l.length + xs.length < 1000→∃ z',jC 3 bE (xs.map enc) (E5 x y z) (kvN l)=some (E5 x y z',kvN (xs.foldl ij l))
 | [],l,z,_=>⟨z,rfl⟩
 | n :: xs,l,z,h=>by
  simp only [Gu] at h
  have hp:=jM l n
  obtain ⟨z',e⟩:=wa x y xs (ij l n) (some (enc n)) (by omega)
  refine ⟨z',?_⟩
  show (match bE (E5 x y (some (enc n))) (kvN l) with | some (ρ',kv')=>jC 3 bE (xs.map enc) ρ' kv' | none=>none)=_
  rw [Cf x y n l (by omega)]
  exact e
theorem Cg (x y:Dv) (n:Note) (l:List Note) (h:l.length < 1000):bF (E5 x y (some (enc n))) (kvN l)=some (E5 x y (some (enc n)),kvN (se l n)):=by
 have e1:ah bP 1 (aa (ac 3) ae) (E5 x y (some (enc n)))=some (.ok (ek n)):=cz bP rfl (c6 n)
 have e2:yg (ah bP 1 (aa (ac 3) ae)) (ac 3) (E5 x y (some (enc n))) (kvN l)=some (enc ((nY l n).getD n)):=by
  unfold yg
  rw [e1]
  show some ((rq (kvN l) (key n)).getD (enc n))=_
  rw [v9]
  cases nY l n <;> rfl
 have e3:iV cO (yg (ah bP 1 (aa (ac 3) ae)) (ac 3)) (ac 3) (E5 x y (some (enc n))) (kvN l)=some (enc (sd l n)):=by
  unfold iV
  rw [e2]
  show (match cO [enc ((nY l n).getD n),enc n] with | some (.ok d)=>some d | _=>none)=_
  rw [later_of]
  rfl
 unfold bF yh
 rw [e3,e1]
 show (if (kvN l).length < 100000 then some (E5 x y (some (enc n)),vZ (kvN l) (key n) (enc (sd l n))) else none)=_
 rw [if_pos (by simp [kvN]; omega),← jL l n,v8]
 rfl
theorem wb (x y:Dv):∀ (xs l:List Note) (z:Option Dv),l.length + xs.length < 1000→∃ z',jC 3 bF (xs.map enc) (E5 x y z) (kvN l)=some (E5 x y z',kvN (xs.foldl se l))
 | [],l,z,_=>⟨z,rfl⟩
 | n :: xs,l,z,h=>by
  simp only [Gu] at h
  have hp:=jM l (sd l n)
  obtain ⟨z',e⟩:=wb x y xs (se l n) (some (enc n)) (by show (ij l (sd l n)).length + _ < _; omega)
  refine ⟨z',?_⟩
  show (match bF (E5 x y (some (enc n))) (kvN l) with | some (ρ',kv')=>jC 3 bF (xs.map enc) ρ' kv' | none=>none)=_
  rw [Cg x y n l (by omega)]
  exact e
def eE (n:Note):List Dv:=[.int n.md,ek n]
def ltP (a b:Note):Bool:=ltL (eE a) (eE b)
def lh (xs:List Note):List Note:=aF (fun a b=>!ltP b a) xs
theorem place_of (n:Note):bD [enc n]=some (.ok (.tup (eE n))):=by
 have e:ah bP 1 (aa (ac 0) ae) [some (enc n)]=some (.ok (ek n)):=cz bP rfl (c6 n)
 refine c5 (d:=.tup (eE n)) ?_
 show cP [some (enc n)]=_
 unfold cP
 exact gz (di (aj (x:=.int n.md) rfl (aj e aG)) (show 2≤100000 by omega))
theorem sf:∀ xs:List Note,ef bD (xs.map enc)=some (xs.map eE)
 | []=>rfl
 | n :: xs=>by
  show (match bD [enc n],ef bD (xs.map enc) with | some (.ok (.tup es)),some rs=>some (es :: rs) | _,_=>none)=_
  rw [place_of,sf xs]
  rfl
theorem sh {xs:List Note} (h:xs.length < 64):cA (xs.map eE)=true:=by
 unfold cA
 rw [g_,decide_eq_true_eq,Gv]
 refine ⟨by simpa using h,fun r hr=>?_⟩
 obtain ⟨n,hn,rfl⟩:=Go.mp hr
 cases xs with
 | nil=>simp at hn
 | cons x xs=>rfl
theorem si (n:Note):imm (enc n)=true:=by
 unfold enc
 cases h:n.ends <;> simp [imm,imms,eO]
theorem gm:∀ xs:List Note,imms (xs.map enc)=true
 | []=>by simp [imms]
 | n :: xs=>by simp [imms,si n,gm xs]
theorem nZ:∀ xs:List Note,imms ((xs.map eE).map Dv.tup)=true
 | []=>by simp [imms]
 | n :: xs=>by
  have:=nZ xs
  simp only [t_,imms,g_]
  exact ⟨by simp [imm,imms,eE,ek],this⟩
theorem o9 (xs:List Note):gZ (xs.map eE) (xs.map enc)=(lh xs).map enc:=by
 unfold gZ lh
 have e:(xs.map eE).zip (xs.map enc)=xs.map fun n=>(eE n,enc n):=by
  rw [List.zip_map']
 rw [e,← TS.sort_map (le:=fun a b=>!ltP b a) (fun n=>(eE n,enc n)) xs fun _ _ _ _=>rfl,G7]
 rfl
theorem uZ {xs:List Note} (h:xs.length < 64):nI bD (xs.map enc)=some (.ok (.lst ((lh xs).map enc))):=by
 unfold nI
 rw [sf]
 dsimp only
 rw [if_pos ⟨sh h,gm xs,nZ xs⟩,o9]
theorem oa (xs:List Note):(lh xs).length=xs.length:=(aH _ xs).length_eq
def mgd (xs ys:List Note):List Note:=ys.foldl se (xs.foldl ij [])
theorem Ch (xs:List Note):fR [.lst (xs.map enc)]=some (.ok (.int (xs.length:Nat))):=by simp [fR]
theorem EK {xs:List Note} (h:xs.length≤20):aw [.lst (xs.map enc)]=some (.ok .non):=by
 have e:gtD (.int (xs.length:Nat)) (.int 20)=bo false:=by
  show some (Rs.ok (Dv.bl (decide ((20:Int) < (xs.length:Nat)))))=_
  rw [decide_eq_false (by omega)]
 simp [aw,mV,az,dI,c9,bnd,fB,toB,aa,ae,ac,fC,f2,fB1,Ch,e]
theorem sj {xs ys:List Note} (Jx:Jar xs) (Jy:Jar ys) (hl:(mgd xs ys).length≤20):bK [ej xs,ej ys]=some (.ok (ej (lh (mgd xs ys)))):=by
 have lx:=Jx.l
 have ly:=Jy.l
 refine BV ?_
 show cw [some (ej xs),some (ej ys),none,none,none]=_
 unfold cw
 rw [ay (dY ax rfl (yT (rZ Jx))),ay (dY ax rfl (yT (rZ Jy)))]
 obtain ⟨z1,e1⟩:=wa (ej xs) (ej ys) xs [] none (by simp; omega)
 have hpl:∀ (xs l:List Note),(xs.foldl ij l).length≤l.length + xs.length:=by
  intro xs
  induction xs with
  | nil=>intro l; simp
  | cons n xs ih =>
   intro l
   have:=ih (ij l n)
   have h2:=jM l n
   simp only [Ix,Gu]
   omega
 have hp0:=hpl xs []
 obtain ⟨z2,e2⟩:=wb (ej xs) (ej ys) ys (xs.foldl ij []) z1 (by simp at hp0; omega)
 unfold rB
 have q1:yi 3 (ac 0) bE (([some (ej xs),some (ej ys),none,none,none]:Ev).set 2 none) []=some (E5 (ej xs) (ej ys) z1,kvN (xs.foldl ij [])):=e1
 rw [q1]
 dsimp only
 have q2:yi 3 (ac 1) bF (E5 (ej xs) (ej ys) z1) (kvN (xs.foldl ij []))=some (E5 (ej xs) (ej ys) z2,kvN (mgd xs ys)):=e2
 rw [q2]
 dsimp only
 have q3:iW bD (E5 (ej xs) (ej ys) z2) (kvN (mgd xs ys))=some (.lst ((lh (mgd xs ys)).map enc)):=by
  unfold iW
  rw [show (kvN (mgd xs ys)).map (·.2)=(mgd xs ys).map enc by unfold kvN; rw [G7]; rfl,uZ (by omega)]
 unfold Bu
 rw [q3]
 dsimp only
 show bn _ _ [some (ej xs),some (ej ys),none,z2,some (.lst ((lh (mgd xs ys)).map enc))]=_
 rw [ay (dY aw rfl (EK (by rw [oa]; exact hl)))]
 rfl
def cy (ys:List Note) (a:Note):Note:=match ys.filter (fun b=>decide (key b=key a)) with
 | b :: _=>bU a b
 | []=>a
theorem mB (a:Note):bU a a=a:=by unfold bU; split <;> rfl
theorem og (ys:List Note) (a:Note):key (cy ys a)=key a:=by
 unfold cy
 split
 · rename_i b r h
   have hb:b∈ys.filter (fun b=>decide (key b=key a)):=by rw [h]; exact j_
   have:=(G1.mp hb).2
   rcases dB a b with e | e
   · rw [e]
   · rw [e]; simpa using this
 · rfl
theorem u0 (ys:List Note) (a:Note):cy ys a=a∨cy ys a∈ys:=by
 unfold cy
 split
 · rename_i b r h
   have hb:b∈ys.filter (fun b=>decide (key b=key a)):=by rw [h]; exact j_
   rcases dB a b with e | e
   · exact .inl e
   · rw [e]; exact .inr (G1.mp hb).1
 · exact .inl rfl
theorem hasK_iff {l:List Note} {n:Note}:fY l n=true↔key n∈l.map key:=by
 unfold fY
 simp only [Mu,decide_eq_true_eq,Go]
theorem i7 {l m:List Note} (h:l.map key=m.map key) (n:Note):fY l n=fY m n:=by
 rw [G2,hasK_iff,hasK_iff,h]
theorem sk {ys:List Note} {a:Note} (h:key a ∉ ys.map key):ys.filter (fun b=>decide (key b=key a))=[]:=by
 rw [MM]
 intro b hb hk
 exact h (Go.mpr ⟨b,hb,by simpa using hk⟩)
theorem li {ys:List Note} {a:Note} (h:key a ∉ ys.map key):cy ys a=a:=by
 unfold cy
 rw [sk h]
theorem sr:∀ (xs l:List Note),((l ++ xs).map key).Nodup→xs.foldl ij l=l ++ xs
 | [],l,_=>by simp
 | n :: xs,l,h=>by
  have hn:fY l n=false:=by
   cases q:fY l n with
   | false=>rfl
   | true =>
    exfalso
    rw [hasK_iff] at q
    rw [GB,t_] at h
    exact (Js.mp h).2.2 _ q _ j_ rfl
  show xs.foldl ij (ij l n)=_
  have e:ij l n=l ++ [n]:=by unfold ij; rw [hn]; rfl
  rw [e,sr xs (l ++ [n]) (by simpa using h)]
  simp
theorem su {l:List Note} {n:Note} (h:key n ∉ l.map key):nY l n=none:=by
 unfold nY
 rw [Kf]
 intro o ho hk
 exact h (Go.mpr ⟨o,ho,by simpa using hk⟩)
theorem sv {l:List Note} (nd:(l.map key).Nodup) {a b:Note} (ha:a∈l) (hb:b∈l) (h:key a=key b):a=b:=by
 induction l with
 | nil=>cases ha
 | cons x l ih =>
  rw [t_,Hx] at nd
  rcases p_.mp ha with rfl | ha'
  · rcases p_.mp hb with rfl | hb'
    · rfl
    · exact absurd (Go.mpr ⟨b,hb',h.symm⟩) nd.1
  · rcases p_.mp hb with rfl | hb'
    · exact absurd (Go.mpr ⟨a,ha',h⟩) nd.1
    · exact ih nd.2 ha' hb'
theorem mC:∀ (ys l:List Note),(ys.map key).Nodup→(l.map key).Nodup→ys.foldl se l=l.map (cy ys) ++ fg ys l
 | [],l,_,_=>by
  have e:l.map (cy [])=l:=by rw [show (cy []:Note→Note)=id from rfl]; exact List.map_id l
  simp [fg,e]
 | n :: ys,l,hy,hl=>by
  rw [t_,Hx] at hy
  show ys.foldl se (se l n)=_
  by_cases hk:key n∈l.map key
  · have e:se l n=l.map fun o=>if key o=key n then bU o n else o:=by
     obtain ⟨o0,ho0,hk0⟩:=Go.mp hk
     have hg:nY l n=some o0:=by
      cases q:nY l n with
      | none =>
       unfold nY at q
       rw [Kf] at q
       exact absurd (by simpa using hk0) (q o0 ho0)
      | some o=>rw [sv hl (jK q).2 ho0 ((jK q).1.trans hk0.symm)]
     have h1:sd l n=bU o0 n:=by unfold sd; rw [hg]; rfl
     unfold se ij
     rw [if_pos (by rw [hasK_iff,jL]; exact hk)]
     apply HL
     intro o ho
     rw [jL]
     by_cases h:key o=key n
     · rw [if_pos h,if_pos h,h1,sv hl ho ho0 (h.trans hk0.symm)]
     · rw [if_neg h,if_neg h]
    have ek':(l.map fun o=>if key o=key n then bU o n else o).map key=l.map key:=by
     rw [G7]
     apply HL
     intro o _
     simp only [JV]
     split
     · rename_i h
       rcases dB o n with q | q
       · rw [q]
       · rw [q,h]
     · rfl
    rw [e,mC ys _ hy.2 (by rw [ek']; exact hl),G7]
    congr 1
    · apply HL
      intro o _
      simp only [JV]
      by_cases h:key o=key n
      · rw [if_pos h]
        have hl2:key (bU o n)=key n:=by
         rcases dB o n with q | q
         · rw [q,h]
         · rw [q]
        rw [li (by rw [hl2]; exact hy.1)]
        unfold cy
        rw [Ic (by simp [h])]
      · rw [if_neg h]
        unfold cy
        rw [HC (by simpa using Im h)]
    · have hn:fY l n=true:=hasK_iff.mpr hk
      show ys.filter _=(n :: ys).filter _
      rw [HC (by simp [hn])]
      apply LW
      intro m _
      rw [i7 ek' m]
  · have e:se l n=l ++ [n]:=by
     have h1:sd l n=n:=by unfold sd; rw [su hk]; exact mB n
     have hn:fY l n=false:=by
      cases q:fY l n with
      | false=>rfl
      | true=>exact absurd (hasK_iff.mp q) hk
     unfold se ij
     rw [h1,hn]
     rfl
    rw [e,mC ys _ hy.2 (by
     rw [GB]
     exact Js.mpr ⟨hl,by simp,fun a ha b hb z=>by
      simp only [t_,JH,Gr] at hb
      exact hk (by rw [← hb,← z]; exact ha)⟩),GB,t_,JH,li hy.1]
    have hn:fY l n=false:=by
     cases q:fY l n with
     | false=>rfl
     | true=>exact absurd (hasK_iff.mp q) hk
    have e1:l.map (cy ys)=l.map (cy (n :: ys)):=by
     apply HL
     intro o ho
     unfold cy
     rw [HC (by
      simp only [decide_eq_true_eq]
      exact fun z=>hk (by rw [z]; exact Go.mpr ⟨o,ho,rfl⟩))]
    have e2:fg ys (l ++ [n])=fg ys l:=by
     apply LW
     intro m hm
     have:fY (l ++ [n]) m=fY l m:=by
      unfold fY
      rw [List.any_append]
      have:([n].any fun o=>decide (key o=key m))=false:=by
       simp only [HH,List.any_nil,ND,decide_eq_false_iff_not]
       exact fun z=>hy.1 (by rw [z]; exact Go.mpr ⟨m,hm,rfl⟩)
      rw [this,ND]
     rw [this]
    rw [e1,e2]
    show _=l.map (cy (n :: ys)) ++ (n :: ys).filter _
    rw [Ic (by simp [hn])]
    simp [fg]
theorem oh {xs ys:List Note} (hx:(xs.map key).Nodup) (hy:(ys.map key).Nodup):mgd xs ys=xs.map (cy ys) ++ fg ys xs:=by
 unfold mgd
 rw [sr xs [] (by simpa using hx),Lh,mC ys xs hy hx]
theorem Ci {xs ys:List Note} (hx:(xs.map key).Nodup) (hy:(ys.map key).Nodup):((mgd xs ys).map key).Nodup:=by
 rw [oh hx hy,GB,G7]
 have e:xs.map (key ∘ cy ys)=xs.map key:=HL fun a _=>og ys a
 rw [e]
 refine Js.mpr ⟨hx,NR (List.Sublist.map _ List.filter_sublist) hy,fun a ha b hb z=>?_⟩
 obtain ⟨n,hn,rfl⟩:=Go.mp hb
 have:=(G1.mp hn).2
 subst z
 rw [hasK_iff.mpr ha] at this
 cases this
theorem oj {xs ys:List Note} (hx:(xs.map key).Nodup) (hy:(ys.map key).Nodup) (gx:∀ n∈xs,Good n) (gy:∀ n∈ys,Good n):∀ n∈mgd xs ys,Good n:=by
 intro n hn
 rw [oh hx hy] at hn
 rcases F_.mp hn with h | h
 · obtain ⟨a,ha,rfl⟩:=Go.mp h
   rcases u0 ys a with e | e
   · rw [e]; exact gx a ha
   · exact gy _ e
 · exact gy n (G1.mp h).1
theorem sw {xs ys:List Note} (hx:(xs.map key).Nodup) (hy:(ys.map key).Nodup):(mgd xs ys).length≤xs.length + ys.length:=by
 rw [oh hx hy,G8,Gw]
 have:=jJ (xs:=ys) (ys:=xs)
 omega
theorem cx (n:Note):ai [enc n]=some (.ok (ek n)):=by simp [ai,bV,dH,bh,c9,bnd,aa,ae,ac,fC,f2,ixD,atD,bc,enc,ek]
def rw3 (n:Note):Dv:=.tup [.int n.md,ek n,enc n]
theorem wc {xs:List Note} (hg:∀ o∈xs,Good o):neX (.lst (xs.map enc)) (.lst [])=bo (!xs.isEmpty):=by
 cases xs with
 | nil=>kernel_rfl
 | cons o rest =>
  have i2:=(rT hg).okP (by omega)
  have i3:okP (.lst [])=true:=by kernel_rfl
  unfold neX
  rw [show eqS (.lst ((o :: rest).map enc)) (.lst [])=none from rfl,i2,i3]
  simp [bp,toPys,GN,HX]
def E8 (x y:Dv) (z:Option Dv):Ev:=[some x,some y,none,z,none,none,none,none]
theorem Cj {xs ys:List Note} (x:Dv) (gy:∀ n∈ys,Good n) (hl:ys.length≤100) {n:Note} (gn:Good n) (acc:List Dv) (ha:acc.length < 1000) :
 ∃ ρ',aA (E8 x (ej ys) (some (enc n))) acc=some (.nx ρ' (acc ++ [rw3 (cy ys n)]))∧fgt [4,5] ρ'=E8 x (ej ys) (some (enc n)):=by
 have hf:∀ m∈ys.filter (fun b=>decide (key b=key n)),Good m:=fun m hm=>gy m (G1.mp hm).1
 have e1:(aY 1 [("_law_note",3)] (bj (ac 1)) (gN 0) (some (fB (f2 eqX (ah ai 1 (aa (ac 0) ae)) (ah ai 1 (aa (ac 1) ae))))) (ac 0)) (E8 x (ej ys) (some (enc n)))=some (.ok (.lst ((ys.filter (fun b=>decide (key b=key n))).map enc))) :=
  iY enc (fun b=>decide (key b=key n)) enc (fW rfl) (by omega) fun b hb=>⟨bX ((a5 (x:=ek b) (y:=ek n) (cz ai rfl (cx b)) (cz ai rfl (cx n))).trans (yG (gy b hb) gn).1),rfl⟩
 unfold aA
 rw [bz (fI e1 rfl)]
 simp only [E8,D_,C_]
 have hne:=wc hf
 have app:∀ (m:Note) (l:Dv),lI (bc (aa (f2 ixD (ac 5) (fC (.int 8))) (aa (ah ai 1 (aa (ac 5) ae)) (aa (ac 5) ae)))) [some x,some (ej ys),none,some (enc n),some l,some (enc m),none,none] acc=some (.nx [some x,some (ej ys),none,some (enc n),some l,some (enc m),none,none] (acc ++ [rw3 m])):=fun m l=>by
  have e:(bc (aa (f2 ixD (ac 5) (fC (.int 8))) (aa (ah ai 1 (aa (ac 5) ae)) (aa (ac 5) ae)))) [some x,some (ej ys),none,some (enc n),some l,some (enc m),none,none]=some (.ok (rw3 m)):=di (aj (x:=.int m.md) rfl (aj (cz ai rfl (cx m)) (aj (x:=enc m) rfl aG))) (show 3≤100000 by omega)
  unfold lI
  rw [if_pos (by omega),e]
  rfl
 cases hq:ys.filter (fun b=>decide (key b=key n)) with
 | nil =>
  rw [hq] at hne
  have hb:cy ys n=n:=by unfold cy; rw [hq]
  rw [bz (fI (d:=enc n) rfl rfl)]
  simp only [D_,C_,JH]
  have hc:(ow (fB (f2 neX (ac 4) (dD ae))) (fB (f2 gtT (bc (aa (f2 ixD (f2 ixD (ac 4) (fC (.int 0))) (fC (.int 9))) (aa (f2 ixD (f2 ixD (ac 4) (fC (.int 0))) (fC (.int 8))) ae))) (bc (aa (f2 ixD (ac 3) (fC (.int 9))) (aa (f2 ixD (ac 3) (fC (.int 8))) ae)))))) [some x,some (ej ys),none,some (enc n),some (.lst []),some (enc n),none,none]=some (.ok false):=Ag (bX ((a5 (x:=.lst []) (y:=.lst []) rfl rfl).trans hne))
  refine ⟨_,(bz (ρ':=[some x,some (ej ys),none,some (enc n),some (.lst []),some (enc n),none,none]) (ds':=acc) ?_).trans ((app n (.lst [])).trans (by rw [hb])),rfl⟩
  unfold oIf
  rw [hc]
  rfl
 | cons b r =>
  rw [hq] at hne
  have hb:cy ys n=bU n b:=by unfold cy; rw [hq]
  rw [bz (fI (d:=enc n) rfl rfl)]
  simp only [D_,C_]
  have hc:(ow (fB (f2 neX (ac 4) (dD ae))) (fB (f2 gtT (bc (aa (f2 ixD (f2 ixD (ac 4) (fC (.int 0))) (fC (.int 9))) (aa (f2 ixD (f2 ixD (ac 4) (fC (.int 0))) (fC (.int 8))) ae))) (bc (aa (f2 ixD (ac 3) (fC (.int 9))) (aa (f2 ixD (ac 3) (fC (.int 8))) ae)))))) [some x,some (ej ys),none,some (enc n),some (.lst ((b :: r).map enc)),some (enc n),none,none]=some (.ok (ri (wl b) (wl n))):=by
   rw [Ae (bX ((a5 (x:=.lst ((b :: r).map enc)) (y:=.lst []) rfl rfl).trans hne))]
   have i0:(f2 ixD (ac 4) (fC (.int 0))) [some x,some (ej ys),none,some (enc n),some (.lst ((b :: r).map enc)),some (enc n),none,none]=some (.ok (enc b)):=(a5 (x:=.lst ((b :: r).map enc)) (y:=.int 0) rfl rfl).trans (by simp [ixD,atD])
   exact bX ((a5 (di (aj ((a5 (y:=.int 9) i0 rfl).trans (show ixD (enc b) (.int 9)=some (Rs.ok (Dv.int b.us)) from rfl)) (aj ((a5 (y:=.int 8) i0 rfl).trans (show ixD (enc b) (.int 8)=some (Rs.ok (Dv.int b.md)) from rfl)) aG)) (show 2≤100000 by omega)) (di (aj (x:=.int n.us) rfl (aj (x:=.int n.md) rfl aG)) (show 2≤100000 by omega))).trans (v7 n b))
  cases hg:ri (wl b) (wl n) with
  | true =>
   rw [hg] at hc
   have hb2:cy ys n=b:=by rw [hb]; unfold bU; rw [if_pos hg]
   refine ⟨_,(bz (ρ':=[some x,some (ej ys),none,some (enc n),some (.lst ((b :: r).map enc)),some (enc b),none,none]) (ds':=acc) ?_).trans ((app b _).trans (by rw [hb2])),rfl⟩
   unfold oIf
   rw [hc]
   simp only [pc,if_true]
   exact fI ((a5 (x:=.lst ((b :: r).map enc)) (y:=.int 0) rfl rfl).trans (by simp [ixD,atD])) rfl
  | false =>
   rw [hg] at hc
   have hb2:cy ys n=n:=by rw [hb]; unfold bU; rw [if_neg (by rw [hg]; decide)]
   refine ⟨_,(bz (ρ':=[some x,some (ej ys),none,some (enc n),some (.lst ((b :: r).map enc)),some (enc n),none,none]) (ds':=acc) ?_).trans ((app n _).trans (by rw [hb2])),rfl⟩
   unfold oIf
   rw [hc]
   rfl
theorem wd {ys:List Note} (x:Dv) (gy:∀ n∈ys,Good n) (hl:ys.length≤100):∀ (xs:List Note) (ρ:Ev) (z:Option Dv) (acc:List Dv),(∀ n∈xs,Good n)→acc.length + xs.length < 1000→fgt [4,5] ρ=E8 x (ej ys) z →
 ∃ z',eN 3 [4,5] aA (xs.map enc) ρ acc=some (.nx (E8 x (ej ys) z') (acc ++ (xs.map (cy ys)).map rw3))
 | [],ρ,z,acc,_,_,hρ=>⟨z,by show some (Fo.nx (fgt [4,5] ρ) acc)=_; rw [hρ]; simp⟩
 | n :: xs,ρ,z,acc,gx,ha,hρ=>by
  simp only [Gu] at ha
  obtain ⟨ρ',e,hρ'⟩:=Cj (xs:=xs) x gy hl (gx n j_) acc (by omega)
  obtain ⟨z',e2⟩:=wd x gy hl xs ρ' _ (acc ++ [rw3 (cy ys n)]) (fun m hm=>gx m (k_ _ hm)) (by simp; omega) hρ'
  refine ⟨z',?_⟩
  show (match aA ((fgt [4,5] ρ).set 3 (some (enc n))) acc with
   | some (.nx ρ' xs')=>eN 3 [4,5] aA (xs.map enc) ρ' xs'
   | o=>o)=_
  rw [hρ]
  show (match aA (E8 x (ej ys) (some (enc n))) acc with
   | some (.nx ρ' xs')=>eN 3 [4,5] aA (xs.map enc) ρ' xs'
   | o=>o)=_
  rw [e]
  dsimp only
  rw [e2]
  simp
theorem sx {n:Note} (g:Good n):It1 2 (.tup (eE n)):=k7 fun d hd=>by
 simp only [eE,p_,G_,or_false] at hd
 rcases hd with rfl | rfl
 · exact it_int.le (by omega)
 · exact o7 g
theorem yI {a b:Note} (ga:Good a) (gb:Good b):eqX (.tup (eE a)) (.tup (eE b))=bo (decide (a.md=b.md) && decide (key a=key b)):=by
 have i1:=(sx ga).okP (by omega)
 have i2:=(sx gb).okP (by omega)
 unfold eqX
 rw [show eqS (.tup (eE a)) (.tup (eE b))=none from rfl,i1,i2]
 have:=rS a b
 have e:GN (bp (.tup (eE a))) (bp (.tup (eE b)))=(decide (a.md=b.md) && decide (key a=key b)):=by
  simp only [eE,bp,toPys,GN,HX,this,Bool.and_true]
  congr 1
 rw [e]
 rfl
theorem Gi (n:Note):(dk (ac 0) dR (cH (fC (.int 2)))) [some (rw3 n)]=some (.ok (.tup (eE n))):=rfl
theorem sy (xs ys zs:List Note):fg zs (xs.map (cy ys))=fg zs xs:=by
 apply LW
 intro m _
 rw [i7 (l:=xs.map (cy ys)) (m:=xs) (by rw [G7]; exact HL fun a _=>og ys a)]
theorem u5 {L:List Note} (nd:(L.map key).Nodup) {n:Note} (hn:n∈L):L.filter (fun m=>decide (m.md=n.md) && decide (key m=key n))=[n]:=by
 induction L with
 | nil=>cases hn
 | cons x L ih =>
  rw [t_,Hx] at nd
  rcases p_.mp hn with rfl | hn'
  · rw [Ic (by simp)]
    congr 1
    rw [MM]
    intro m hm hk
    simp only [g_,decide_eq_true_eq] at hk
    exact nd.1 (Go.mpr ⟨m,hm,hk.2⟩)
  · rw [HC (by
     simp only [g_,decide_eq_true_eq]
     exact fun hk=>nd.1 (Go.mpr ⟨n,hn',hk.2.symm⟩)),ih nd.2 hn']
theorem pb {xs ys:List Note} (Jx:Jar xs) (Jy:Jar ys):bY [ej xs,ej ys]=some (.ok (ej (lh (mgd xs ys)))):=by
 have lx:=Jx.l
 have ly:=Jy.l
 have gL:=oj Jx.k Jy.k Jx.g Jy.g
 have nL:=Ci Jx.k Jy.k
 have lL:=sw Jx.k Jy.k
 have eL:=oh Jx.k Jy.k
 have gB:∀ n∈xs.map (cy ys),Good n:=fun n hn=>gL n (by rw [eL]; exact Gp _ hn)
 generalize hLd:mgd xs ys=L at *
 refine c5 (d:=ej (lh L)) ?_
 show bJ [some (ej xs),some (ej ys),none,none,none,none,none,none]=_
 unfold bJ sJ
 simp only [ae,c9]
 rw [if_pos (by simp)]
 obtain ⟨z,e1⟩:=wd (ej xs) Jy.g (by omega) xs (E8 (ej xs) (ej ys) none) none [] Jx.g (by simp; omega) rfl
 have e2:m8 3 [4,5] (bj (ac 0)) aA (([some (ej xs),some (ej ys),none,none,none,none,none,none]:Ev).set 2 none) []=some (.nx (E8 (ej xs) (ej ys) z) ((xs.map (cy ys)).map rw3)):=by
  unfold m8
  rw [show bj (ac 0) (([some (ej xs),some (ej ys),none,none,none,none,none,none]:Ev).set 2 none)=some (.ok (xs.map enc)) from fW rfl]
  show (if imms (xs.map enc)=true then _ else none)=_
  rw [if_pos (gm xs)]
  exact e1
 rw [bz e2]
 have key5:∀ (f:FnS) (ρ:Ev) (d:Dv) (ds:List Dv),f (ρ.set 2 (some (.lst ds)))=some (.rt d)→AV 2 f ρ ds=some (.rt d):=fun f ρ d ds h=>by unfold AV; rw [h]
 rw [key5 _ _ (ej (lh L))]
 show bn _ _ [some (ej xs),some (ej ys),some (.lst ((xs.map (cy ys)).map rw3)),z,none,none,none,none]=_
 have w6:(aO [] (bj (ac 2)) none (f2 ixD (ac 0) (fC (.int 1)))) [some (ej xs),some (ej ys),some (.lst ((xs.map (cy ys)).map rw3)),z,none,none,none,none]=some (.ok (.lst ((xs.map (cy ys)).map ek))) :=
  bZ rw3 ek (dA rfl) (by simp; omega) fun n _=>rfl
 rw [ay (aZ w6 rfl)]
 simp only [D_,C_]
 have w2:(f2 bb (ac 2) (aO [("_law_keys",6)] (bj (ac 1)) (some (fB (f2 bB (ah ai 1 (aa (ac 0) ae)) (ac 1)))) (bc (aa (f2 ixD (ac 0) (fC (.int 8))) (aa (ah ai 1 (aa (ac 0) ae)) (aa (ac 0) ae)))))) [some (ej xs),some (ej ys),some (.lst ((xs.map (cy ys)).map rw3)),z,none,none,some (.lst ((xs.map (cy ys)).map ek)),none]=some (.ok (.lst (L.map rw3))):=by
  have h1:=cQ (cs:=[("_law_keys",6)]) (src:=bj (ac 1)) (tst:=fB (f2 bB (ah ai 1 (aa (ac 0) ae)) (ac 1))) (elt:=bc (aa (f2 ixD (ac 0) (fC (.int 8))) (aa (ah ai 1 (aa (ac 0) ae)) (aa (ac 0) ae)))) (ρ:=[some (ej xs),some (ej ys),some (.lst ((xs.map (cy ys)).map rw3)),z,none,none,some (.lst ((xs.map (cy ys)).map ek)),none]) enc (fun n=>!fY (xs.map (cy ys)) n) rw3 (fW rfl) (by omega) fun n hn =>
   ⟨bX ((a5 (x:=ek n) (y:=.lst ((xs.map (cy ys)).map ek)) (cz ai rfl (cx n)) rfl).trans (CG gB (Jy.g n hn)).2),di (aj (x:=.int n.md) rfl (aj (cz ai rfl (cx n)) (aj (x:=enc n) rfl aG))) (show 3≤100000 by omega)⟩
  refine (a5 (x:=.lst ((xs.map (cy ys)).map rw3)) rfl h1).trans ?_
  show (if ((xs.map (cy ys)).map rw3).length + ((fg ys (xs.map (cy ys))).map rw3).length≤100000 then some (Rs.ok (Dv.lst ((xs.map (cy ys)).map rw3 ++ (fg ys (xs.map (cy ys))).map rw3))) else none)=_
  have:=jJ (xs:=ys) (ys:=xs)
  rw [sy,if_pos (by simp only [Gw]; omega),← GB,← eL]
 rw [ay (aZ w2 rfl)]
 simp only [D_,C_]
 have w7:(fB1 eU (aa (aO [] (bj (ac 2)) none (dk (ac 0) dR (cH (fC (.int 2))))) ae)) [some (ej xs),some (ej ys),some (.lst (L.map rw3)),z,none,none,some (.lst ((xs.map (cy ys)).map ek)),none]=some (.ok (.lst ((lh L).map fun n=>.tup (eE n)))) :=
  (dj (aj (bZ rw3 (fun n=>.tup (eE n)) (dA rfl) (by omega) fun n _=>Gi n) aG)).trans (i4 eE [2,7] (fun _=>rfl) rfl (fun _=>rfl) (by omega))
 rw [ay (aZ w7 rfl)]
 simp only [D_,C_]
 refine gz ?_
 refine (dj (aj (kZ (fun n=>.tup (eE n)) enc (l:=lh L) (dA rfl) (by rw [oa]; omega) fun n hn=>?_) aG)).trans rfl
 have hnL:n∈L:=(aH _ L).mem_iff.mp hn
 show (f2 ixD (aO [("_law_head",0)] (bj (ac 1)) (some (fB (f2 eqX (dk (ac 0) dR (cH (fC (.int 2)))) (ac 1)))) (f2 ixD (ac 0) (fC (.int 2)))) (fC (.int 0))) [some (.tup (eE n)),some (.lst (L.map rw3))]=_
 have h1:=cQ (cs:=[("_law_head",0)]) (src:=bj (ac 1)) (tst:=fB (f2 eqX (dk (ac 0) dR (cH (fC (.int 2)))) (ac 1))) (elt:=f2 ixD (ac 0) (fC (.int 2))) (ρ:=[some (.tup (eE n)),some (.lst (L.map rw3))]) rw3 (fun m=>decide (m.md=n.md) && decide (key m=key n)) enc (dA rfl) (by omega) fun m hm =>
  ⟨bX ((a5 (x:=.tup (eE m)) (y:=.tup (eE n)) rfl rfl).trans (yI (gL m hm) (gL n hnL))),rfl⟩
 refine (a5 h1 rfl).trans ?_
 rw [u5 nL hnL]
 rfl
structure LI (acc P:List Note):Prop where
 g:∀ n∈acc,Good n
 k:(acc.map key).Sublist (P.map key)
 m:(acc.map Note.md).Sublist (P.map Note.md)
theorem LI.skip {acc P:List Note} (h:LI acc P) (n:Note):LI acc (P ++ [n]):=by
 refine ⟨h.g,?_,?_⟩
 · rw [GB]; exact h.k.trans (L9 _ _)
 · rw [GB]; exact h.m.trans (L9 _ _)
theorem LI.add {acc P:List Note} (h:LI acc P) {n n':Note} (g:Good n') (hk:key n'=key n) (hm:n'.md=n.md):LI (acc ++ [n']) (P ++ [n]):=by
 refine ⟨fun x hx=>?_,?_,?_⟩
 · rcases F_.mp hx with q | q
   · exact h.g x q
   · rw [Gr.mp q]; exact g
 · rw [GB,GB]
   refine h.k.append ?_
   simp [hk]
 · rw [GB,GB]
   refine h.m.append ?_
   simp [hm]
def EL (ns:List Int) (a:Int) (J:Dv) (z:Option Dv) (l:Option Dv):Ev:=[some (.scr ns),some (.int a),some J,none,none,z,none,l]
def us1 (n:Note):Note:={ n with us:=n.us + 1 }
theorem u8 {n:Note} (g:Good n) (h:n.us≤39):Good (us1 n):=⟨g.nm,g.w,g.house,g.path,g.R,g.ends,g.mk0,by have:=g.mu; show n.md≤n.us + 1; omega,by show n.us + 1≤99; omega⟩
theorem Ck (ns:List Int) (hl:ns.length≤63) (a:Int) (J:Dv) {n:Note} (g:Good n) (hu:n.us≤39) (i:Nat) {acc P:List Note} (h:LI acc P) (hlen:acc.length < 1000) :
 ∃ ρ' z' acc',aE [some (.scr ns),some (.int a),some J,none,some (.int i),some (enc n),none,none] (acc.map enc)=some (.nx ρ' (acc'.map enc))∧fgt [4,6] ρ'=EL ns a J z' none∧LI acc' (P ++ [n])∧acc'.length≤acc.length + 1:=by
 obtain ⟨d,d0,d4,e⟩:=bf ns hl (a + i) 4 (by omega)
 have w6:(ah ag 3 (aa (ac 0) (aa (f2 bb (ac 1) (ac 4)) (aa (fC (.int 4)) ae)))) [some (.scr ns),some (.int a),some J,none,some (.int i),some (enc n),none,none]=some (.ok (.int d)):=ig ag rfl (b:=.int (a + i)) rfl rfl e
 unfold aE
 rw [bz (fI w6 rfl)]
 simp only [D_,C_]
 have cont:∀ n':Note,Good n'→key n'=key n→n'.md=n.md→∃ ρ' z' acc',oIf (fB (f2 gtD (ac 6) (fC (.int 0)))) (lI (ac 5)) qt [some (.scr ns),some (.int a),some J,none,some (.int i),some (enc n'),some (.int d),none] (acc.map enc)=some (.nx ρ' (acc'.map enc))∧fgt [4,6] ρ'=EL ns a J z' none∧LI acc' (P ++ [n])∧acc'.length≤acc.length + 1:=by
  intro n' g' hk hm
  have hc:fB (f2 gtD (ac 6) (fC (.int 0))) [some (.scr ns),some (.int a),some J,none,some (.int i),some (enc n'),some (.int d),none]=some (.ok (decide (0 < d))):=rfl
  by_cases hd:0 < d
  · refine ⟨[some (.scr ns),some (.int a),some J,none,some (.int i),some (enc n'),some (.int d),none],some (enc n'),acc ++ [n'],?_,rfl,h.add g' hk hm,by simp⟩
    unfold oIf
    rw [hc,decide_eq_true hd]
    simp only [pc,if_true]
    unfold lI
    rw [if_pos (by simp; omega)]
    show some (Fo.nx _ (acc.map enc ++ [enc n']))=_
    rw [GB]
    rfl
  · refine ⟨[some (.scr ns),some (.int a),some J,none,some (.int i),some (enc n'),some (.int d),none],some (enc n'),acc,?_,rfl,h.skip n,by omega⟩
    unfold oIf
    rw [hc,decide_eq_false hd]
    rfl
 have hc1:fB (f2 eqX (ac 6) (fC (.int 1))) [some (.scr ns),some (.int a),some J,none,some (.int i),some (enc n),some (.int d),none]=some (.ok (d == 1)):=rfl
 by_cases h1:d=1
 · have w5:(f2 bb (dk (ac 5) dR (cH (fC (.int 9)))) (bc (aa (f2 bb (f2 ixD (ac 5) (fC (.int 9))) (fC (.int 1))) ae))) [some (.scr ns),some (.int a),some J,none,some (.int i),some (enc n),some (.int d),none]=some (.ok (enc (us1 n))):=rfl
   have q:oIf (fB (f2 eqX (ac 6) (fC (.int 1)))) (cK 5 (f2 bb (dk (ac 5) dR (cH (fC (.int 9)))) (bc (aa (f2 bb (f2 ixD (ac 5) (fC (.int 9))) (fC (.int 1))) ae)))) qt [some (.scr ns),some (.int a),some J,none,some (.int i),some (enc n),some (.int d),none] (acc.map enc)=some (.nx [some (.scr ns),some (.int a),some J,none,some (.int i),some (enc (us1 n)),some (.int d),none] (acc.map enc)):=by
    unfold oIf
    rw [hc1,show (d == 1)=true by simp [h1]]
    simp only [pc,if_true]
    exact fI w5 rfl
   rw [bz q]
   exact cont (us1 n) (u8 g hu) rfl rfl
 · have q:oIf (fB (f2 eqX (ac 6) (fC (.int 1)))) (cK 5 (f2 bb (dk (ac 5) dR (cH (fC (.int 9)))) (bc (aa (f2 bb (f2 ixD (ac 5) (fC (.int 9))) (fC (.int 1))) ae)))) qt [some (.scr ns),some (.int a),some J,none,some (.int i),some (enc n),some (.int d),none] (acc.map enc)=some (.nx [some (.scr ns),some (.int a),some J,none,some (.int i),some (enc n),some (.int d),none] (acc.map enc)):=by
    unfold oIf
    rw [hc1,show (d == 1)=false by simp [h1]]
    rfl
   rw [bz q]
   exact cont n g rfl rfl
theorem we (ns:List Int) (hl:ns.length≤63) (a:Int) (J:Dv):∀ (rest:List Note) (i:Nat) (ρ:Ev) (z:Option Dv) (acc P:List Note),(∀ n∈rest,Good n∧n.us≤39)→fgt [4,6] ρ=EL ns a J z none→LI acc P→acc.length + rest.length < 1000 →
 ∃ z' acc',jv 4 5 [4,6] aE (eM i (rest.map enc)) ρ (acc.map enc)=some (.nx (EL ns a J z' none) (acc'.map enc))∧LI acc' (P ++ rest)
 | [],i,ρ,z,acc,P,_,hρ,h,_=>⟨z,acc,by show some (Fo.nx (fgt [4,6] ρ) _)=_; rw [hρ],by simpa using h⟩
 | n :: rest,i,ρ,z,acc,P,hg,hρ,h,hlen=>by
  simp only [Gu] at hlen
  obtain ⟨g,hu⟩:=hg n j_
  obtain ⟨ρ',z',acc',e,hρ',h',hl'⟩:=Ck ns hl a J g hu i h (by omega)
  obtain ⟨z2,acc2,e2,h2⟩:=we ns hl a J rest (i + 1) ρ' z' acc' (P ++ [n]) (fun m hm=>hg m (k_ _ hm)) hρ' h' (by omega)
  refine ⟨z2,acc2,?_,by simpa using h2⟩
  show (match aE (((fgt [4,6] ρ).set 4 (some (.int i))).set 5 (some (enc n))) (acc.map enc) with
   | some (.nx ρ' xs')=>jv 4 5 [4,6] aE (eM (i + 1) (rest.map enc)) ρ' xs'
   | o=>o)=_
  rw [hρ]
  show (match aE [some (.scr ns),some (.int a),some J,none,some (.int i),some (enc n),none,none] (acc.map enc) with
   | some (.nx ρ' xs')=>jv 4 5 [4,6] aE (eM (i + 1) (rest.map enc)) ρ' xs'
   | o=>o)=_
  rw [e]
  exact e2
structure LM (B:Nat) (acc:List Note) (L:Int):Prop where
 g:∀ n∈acc,Good n
 s:acc.Pairwise fun a b=>a.md≤b.md
 k:(acc.map key).Nodup
 l:acc.length≤B
 m:∀ n∈acc,n.md≤L
theorem LM.add {B:Nat} {acc:List Note} {L:Int} (h:LM B acc L) {n:Note} (g:Good n) (hm:n.md=L) (hk:acc.filter (fun o=>decide (key o=key n))=[]):LM (B + 1) (acc ++ [n]) L:=by
 refine ⟨fun x hx=>?_,?_,?_,by have:=h.l; simp; omega,fun x hx=>?_⟩
 · rcases F_.mp hx with q | q
   · exact h.g x q
   · rw [Gr.mp q]; exact g
 · refine JB.mpr ⟨h.s,Mr ..,fun a ha b hb=>?_⟩
   rw [Gr.mp hb,hm]
   exact h.m a ha
 · rw [GB]
   refine Js.mpr ⟨h.k,by simp,fun a ha b hb e=>?_⟩
   obtain ⟨o,ho,rfl⟩:=Go.mp ha
   simp only [t_,JH,Gr] at hb
   have:o∈acc.filter (fun o=>decide (key o=key n)):=G1.mpr ⟨ho,by simp [e.trans hb]⟩
   rw [hk] at this
   cases this
 · rcases F_.mp hx with q | q
   · exact h.m x q
   · rw [Gr.mp q,hm]; omega
def yJ (n:Note) (L:Int):Note:={ n with ends:=none,md:=L,us:=L + 2 }
theorem sD {n:Note} (g:Good n) {L:Int} (h0:0≤L) (h1:L≤60):Good (yJ n L):=⟨g.nm,g.w,g.house,g.path,g.R,(fun i hi=>nomatch hi),h0,by show L≤L + 2; omega,by show L + 2≤99; omega⟩
theorem Co (ns:List Int) (a:Int) (J:Dv) {n:Note} (g:Good n) {L:Int} (h0:0≤L) (h1:L≤60) {B:Nat} {acc:List Note} (h:LM B acc L) (hB:B < 100) :
 ∃ acc',aB (EL ns a J (some (enc n)) (some (.int L))) (acc.map enc)=some (.nx (EL ns a J (some (enc n)) (some (.int L))) (acc'.map enc))∧LM (B + 1) acc' L:=by
 have hlen:=h.l
 have e1:(aO [("_law_note",5)] (bj (ac 3)) (some (fB (f2 eqX (ah ai 1 (aa (ac 0) ae)) (ah ai 1 (aa (ac 1) ae))))) (ac 0)) ((EL ns a J (some (enc n)) (some (.int L))).set 3 (some (.lst (acc.map enc))))=some (.ok (.lst ((acc.filter (fun o=>decide (key o=key n))).map enc))) :=
  cQ enc (fun o=>decide (key o=key n)) enc (dA rfl) (by omega) fun b hb=>⟨bX ((a5 (x:=ek b) (y:=ek n) (cz ai rfl (cx b)) (cz ai rfl (cx n))).trans (yG (h.g b hb) g).1),rfl⟩
 have hc:(fB (f2 eqX (aO [("_law_note",5)] (bj (ac 3)) (some (fB (f2 eqX (ah ai 1 (aa (ac 0) ae)) (ah ai 1 (aa (ac 1) ae))))) (ac 0)) (dD ae))) ((EL ns a J (some (enc n)) (some (.int L))).set 3 (some (.lst (acc.map enc))))=some (.ok (acc.filter (fun o=>decide (key o=key n))).isEmpty) :=
  bX ((a5 e1 rfl).trans (nil_eq fun o ho=>h.g o (G1.mp ho).1))
 unfold aB ud
 rw [hc]
 cases hf:acc.filter (fun o=>decide (key o=key n)) with
 | nil =>
  refine ⟨acc ++ [yJ n L],?_,h.add (sD g h0 h1) rfl hf⟩
  have w:(f2 bb (f2 bb (f2 bb (dk (ac 5) dR (cH (fC (.int 5)))) (bc (aa (fC .non) ae))) (dk (ac 5) (cH (fC (.int 6))) (cH (fC (.int 8))))) (bc (aa (ac 7) (aa (f2 bb (ac 7) (fC (.int 2))) ae)))) (EL ns a J (some (enc n)) (some (.int L)))=some (.ok (enc (yJ n L))):=rfl
  show lI _ _ _=_
  unfold lI
  rw [if_pos (by simp; omega),w,GB]
  rfl
 | cons c r =>
  refine ⟨acc,rfl,⟨h.g,h.s,h.k,by omega,h.m⟩⟩
theorem wf (ns:List Int) (a:Int) (J:Dv) {L:Int} (h0:0≤L) (h1:L≤60):∀ (xs:List Note) (ρ:Ev) (B:Nat) (acc:List Note),(∀ n∈xs,Good n)→fgt [5] ρ=EL ns a J none (some (.int L))→LM B acc L→B + xs.length < 100 →
 ∃ acc',eN 5 [5] aB (xs.map enc) ρ (acc.map enc)=some (.nx (EL ns a J none (some (.int L))) (acc'.map enc))∧LM (B + xs.length) acc' L
 | [],ρ,B,acc,_,hρ,h,_=>⟨acc,by show some (Fo.nx (fgt [5] ρ) _)=_; rw [hρ],h⟩
 | n :: xs,ρ,B,acc,hg,hρ,h,hB=>by
  simp only [Gu] at hB
  obtain ⟨acc',e,h'⟩:=Co ns a J (hg n j_) h0 h1 h (by omega)
  obtain ⟨acc2,e2,h2⟩:=wf ns a J h0 h1 xs (EL ns a J (some (enc n)) (some (.int L))) (B + 1) acc' (fun m hm=>hg m (k_ _ hm)) rfl h' (by omega)
  refine ⟨acc2,?_,by rw [Gu,show B + (xs.length + 1)=B + 1 + xs.length by omega]; exact h2⟩
  show (match aB ((fgt [5] ρ).set 5 (some (enc n))) (acc.map enc) with
   | some (.nx ρ' xs')=>eN 5 [5] aB (xs.map enc) ρ' xs'
   | o=>o)=_
  rw [hρ]
  show (match aB (EL ns a J (some (enc n)) (some (.int L))) (acc.map enc) with
   | some (.nx ρ' xs')=>eN 5 [5] aB (xs.map enc) ρ' xs'
   | o=>o)=_
  rw [e]
  exact e2
theorem ll:∀ (xs:List Note) (i:Nat),imms (eM i (xs.map enc))=true
 | [],_=>rfl
 | n :: xs,i=>by
  show (imm (.tup [.int i,enc n]) && imms (eM (i + 1) (xs.map enc)))=true
  rw [ll xs (i + 1)]
  simp [imm,imms,si]
theorem yK (l:List Dv) (x:Dv):ixD (.lst (l ++ [x])) (.int (-1))=some (.ok x):=by
 have e:(-1 + ((l.length:Int) + 1)).toNat=l.length:=by omega
 have e1:(1:Int)≤(l.length:Int) + 1:=by omega
 simp [ixD,atD,e,e1]
theorem i8 {α:Type} (l:List α):l=[]∨∃ i b,l=i ++ [b]:=by
 rcases List.eq_nil_or_concat l with h | ⟨i,b,h⟩
 · exact .inl h
 · exact .inr ⟨i,b,by rw [h,List.concat_eq_append]⟩
def fK (acc:List Note):Int:=match acc.getLast? with
 | some n=>n.md
 | none=>0
theorem yL {acc:List Note} (hg:∀ n∈acc,Good n) {ρ:Ev} (h:ρ[3]?=some (some (.lst (acc.map enc)))):(fIf (fB (f2 neX (ac 3) (dD ae))) (f2 ixD (f2 ixD (ac 3) (f1 vw (fC (.int 1)))) (fC (.int 8))) (fC (.int 0))) ρ=some (.ok (.int (fK acc))):=by
 have hc:fB (f2 neX (ac 3) (dD ae)) ρ=some (.ok (!acc.isEmpty)):=bX ((a5 (x:=.lst (acc.map enc)) (y:=.lst []) (qb h) rfl).trans (wc hg))
 unfold fIf
 rw [hc]
 rcases i8 acc with rfl | ⟨l,b,rfl⟩
 · rfl
 · have e:(f2 ixD (f2 ixD (ac 3) (f1 vw (fC (.int 1)))) (fC (.int 8))) ρ=some (.ok (.int b.md)):=by
    refine (a5 (x:=enc b) (y:=.int 8) ((a5 (x:=.lst ((l ++ [b]).map enc)) (y:=.int (-1)) (qb h) rfl).trans ?_) rfl).trans rfl
    rw [GB]
    exact yK _ _
   have e2:fK (l ++ [b])=b.md:=by unfold fK; simp
   rw [e2]
   simp only [bnd]
   rw [if_pos (by simp)]
   exact e
theorem yM (ns:List Int) (hl:ns.length≤63) (a:Int) {js:List Note} {m:Nat} {now:Int} (J:JI m js now) (hm:m≤8):∃ os,cm [.scr ns,.int a,ej js]=some (.ok (ej os))∧Jar os∧os.length≤m + 3:=by
 have jl:=J.l
 obtain ⟨z,acc,e1,L1⟩:=we ns hl a (ej js) js 0 (EL ns a (ej js) none none) none [] [] (fun n hn=>⟨J.g n hn,J.u n hn⟩) rfl ⟨by simp,.slnil,.slnil⟩ (by simp; omega)
 rw [Lh] at L1
 have sm:(acc.map Note.md).Pairwise (·≤·):=by
  have h:(js.map Note.md).Pairwise (·≤·):=by rw [Jr]; exact J.s
  exact List.Pairwise.sublist L1.m h
 have al:acc.length≤m:=by
  have:=L1.m.length_le
  simp at this
  omega
 have mb:∀ n∈acc,0≤n.md∧n.md≤39:=fun n hn=>by
  have:n.md∈js.map Note.md:=L1.m.subset (Go.mpr ⟨n,hn,rfl⟩)
  obtain ⟨o,ho,e⟩:=Go.mp this
  have h1:=J.u o ho
  have h2:=(J.g o ho).mu
  have h3:=(L1.g n hn).mk0
  omega
 have LM1:LM m acc (fK acc)∧0≤fK acc∧fK acc≤60:=by
  have s':acc.Pairwise fun a b=>a.md≤b.md:=by rw [Jr] at sm; exact sm
  rcases i8 acc with rfl | ⟨l,b,rfl⟩
  · exact ⟨⟨by simp,.nil,by simp,by simp,by simp⟩,by decide,by decide⟩
  · have e2:fK (l ++ [b])=b.md:=by unfold fK; simp
    have hb:=mb b (by simp)
    rw [e2]
    refine ⟨⟨L1.g,s',NR L1.k J.k,al,fun n hn=>?_⟩,by omega,by omega⟩
    rcases F_.mp hn with q | q
    · exact (JB.mp s').2.2 n q b (by simp)
    · rw [Gr.mp q]; omega
 obtain ⟨LM1,b0,b1⟩:=LM1
 obtain ⟨j3,now3,e3,J3,l3,_⟩:=rX ns hl (a + 40) 3 (by omega)
 obtain ⟨os,e4,LM2⟩:=wf ns a (ej js) b0 b1 j3 (EL ns a (ej js) z (some (.int (fK acc)))) m acc J3.g rfl LM1 (by omega)
 have ol:=LM2.l
 refine ⟨os,?_,⟨LM2.g,fun i h=>JM.mp LM2.s i (i + 1) (by omega) h (by omega),LM2.k,by omega⟩,by omega⟩
 refine c5 (d:=ej os) ?_
 show cj [some (.scr ns),some (.int a),some (ej js),none,none,none,none,none]=_
 unfold cj sJ
 simp only [ae,c9]
 rw [if_pos (by simp)]
 have f1:oH 4 5 [4,6] (fun ρ=>bnd ((aa (ac 2) ae) ρ) oQ) aE (([some (.scr ns),some (.int a),some (ej js),none,none,none,none,none]:Ev).set 3 none) []=some (.nx (EL ns a (ej js) z none) (acc.map enc)):=by
  unfold oH
  rw [show (fun ρ=>bnd ((aa (ac 2) ae) ρ) oQ) (([some (.scr ns),some (.int a),some (ej js),none,none,none,none,none]:Ev).set 3 none)=some (.ok (eM 0 (js.map enc))) from rfl]
  show (if imms (eM 0 (js.map enc))=true then _ else none)=_
  rw [if_pos (ll js 0)]
  exact e1
 have f2:lS 3 7 (fIf (fB (f2 neX (ac 3) (dD ae))) (FD.f2 ixD (FD.f2 ixD (ac 3) (FD.f1 vw (fC (.int 1)))) (fC (.int 8))) (fC (.int 0))) (EL ns a (ej js) z none) (acc.map enc)=some (.nx (EL ns a (ej js) z (some (.int (fK acc)))) (acc.map enc)):=by
  unfold lS
  rw [yL L1.g rfl]
  rfl
 have f3:m8 5 [5] (bj (ah aM 3 (aa (ac 0) (aa (FD.f2 bb (ac 1) (fC (.int 40))) (aa (fC (.int 3)) ae))))) aB (EL ns a (ej js) z (some (.int (fK acc)))) (acc.map enc)=some (.nx (EL ns a (ej js) none (some (.int (fK acc)))) (os.map enc)):=by
  unfold m8
  rw [show bj (ah aM 3 (aa (ac 0) (aa (FD.f2 bb (ac 1) (fC (.int 40))) (aa (fC (.int 3)) ae)))) (EL ns a (ej js) z (some (.int (fK acc))))=some (.ok (j3.map enc)) from rR (ig aM rfl (b:=.int (a + 40)) rfl rfl e3)]
  show (if imms (j3.map enc)=true then _ else none)=_
  rw [if_pos (gm j3)]
  exact e4
 have f4:=bz (g:=cD (lS 3 7 (fIf (fB (FD.f2 neX (ac 3) (dD ae))) (FD.f2 ixD (FD.f2 ixD (ac 3) (FD.f1 vw (fC (.int 1)))) (fC (.int 8))) (fC (.int 0)))) (cD (m8 5 [5] (bj (ah aM 3 (aa (ac 0) (aa (FD.f2 bb (ac 1) (fC (.int 40))) (aa (fC (.int 3)) ae))))) aB) (vI 3 (fB1 dN (aa (ac 3) ae))))) f1
 rw [f4,bz f2,bz f3]
 rfl
theorem EM {xs ys:List Note} (Jx:Jar xs) (Jy:Jar ys):av [.int 0,ej xs,ej ys]=some (.ok (chg xs ys)):=by
 refine c5 ?_
 show aU [some (.int 0),some (ej xs),some (ej ys),none]=_
 unfold aU yR
 have e:(fIf (fB (f2 eqX (ac 0) (fC (.int 0)))) (bH bd 2 (aa (ac 1) (aa (ac 2) ae))) (bH bK 2 (aa (ac 1) (aa (ac 2) ae)))) [some (.int 0),some (ej xs),some (ej ys),none]=some (.ok (chg xs ys)):=by
  unfold fIf
  rw [show fB (f2 eqX (ac 0) (fC (.int 0))) [some (.int 0),some (ej xs),some (ej ys),none]=some (.ok true) from rfl]
  simp only [bnd,if_true]
  exact cE bd (ds:=[ej xs,ej ys]) rfl rfl (o8 Jx Jy)
 rw [e]
theorem EN {xs ys:List Note} (Jx:Jar xs) (Jy:Jar ys) (hl:xs.length + ys.length≤20):av [.int 1,ej xs,ej ys]=some (.ok (ej (lh (mgd xs ys)))):=by
 refine c5 (d:=ej (lh (mgd xs ys))) ?_
 show aU [some (.int 1),some (ej xs),some (ej ys),none]=_
 unfold aU yR
 have e:(fIf (fB (f2 eqX (ac 0) (fC (.int 0)))) (bH bd 2 (aa (ac 1) (aa (ac 2) ae))) (bH bK 2 (aa (ac 1) (aa (ac 2) ae)))) [some (.int 1),some (ej xs),some (ej ys),none]=some (.ok (ej (lh (mgd xs ys)))):=by
  unfold fIf
  rw [show fB (f2 eqX (ac 0) (fC (.int 0))) [some (.int 1),some (ej xs),some (ej ys),none]=some (.ok false) from rfl]
  simp only [bnd,i_,if_false]
  exact cE bK (ds:=[ej xs,ej ys]) rfl rfl (sj Jx Jy (by have:=sw Jx.k Jy.k; omega))
 rw [e]
def REF:Dv:=.tup [.str "refused",.int 0]
theorem u9:ba [.exn 5]=some (.ok REF):=by kernel_rfl
theorem wg {w:Int} (hw:w=0∨w=1) {x y:Dv} (h:bt [x]=bo false∨(bt [x]=bo true∧bt [y]=bo false)):av [.int w,x,y]=some (.ok REF):=by
 have hc:bd [x,y]=some (.exc 5):=Fv (by
  show bM [some x,some y,none,none,none,none,none]=_
  unfold bM
  rcases h with h | ⟨h1,h2⟩
  · exact CB (dX ax rfl (CH h))
  · rw [ay (dY ax rfl (yT h1))]
    exact CB (dX ax rfl (CH h2)))
 have hm:bK [x,y]=some (.exc 5):=Fv (by
  show cw [some x,some y,none,none,none]=_
  unfold cw
  rcases h with h | ⟨h1,h2⟩
  · exact CB (dX ax rfl (CH h))
  · rw [ay (dY ax rfl (yT h1))]
    exact CB (dX ax rfl (CH h2)))
 refine c5 (d:=REF) ?_
 show aU [some (.int w),some x,some y,none]=_
 unfold aU yR
 have e:(fIf (fB (f2 eqX (ac 0) (fC (.int 0)))) (bH bd 2 (aa (ac 1) (aa (ac 2) ae))) (bH bK 2 (aa (ac 1) (aa (ac 2) ae)))) [some (.int w),some x,some y,none]=some (.exc 5):=by
  unfold fIf
  rcases hw with rfl | rfl
  · rw [show fB (f2 eqX (ac 0) (fC (.int 0))) [some (.int 0),some x,some y,none]=some (.ok true) from rfl]
    simp only [bnd,if_true]
    exact cE bd (ds:=[x,y]) rfl rfl hc
  · rw [show fB (f2 eqX (ac 0) (fC (.int 0))) [some (.int 1),some x,some y,none]=some (.ok false) from rfl]
    simp only [bnd,i_,if_false]
    exact cE bK (ds:=[x,y]) rfl rfl hm
 rw [e]
 dsimp only
 rw [if_pos (by decide),show ah ba 1 (aa (ac 3) ae) ((rl 4 none).set 3 (some (.exn 5)))=some (.ok REF) from cz ba rfl u9]
def EA (ns:List Int) (js:List Note) (o:Option Dv):Ev:=[some (.scr ns),some (ej js),o,none,none,none,none,none,none,none,none]
theorem vb (ns:List Int) {js os:List Note} (Jj:Jar js) (Jo:Jar os) (hl:js.length + os.length≤20):∃ ρ',ic (EA ns js (some (ej os)))=some (.nx ρ')∧fgt [2,3,4,5,6,7] ρ'=EA ns js none:=by
 have lj:=Jj.l
 have lo:=Jo.l
 unfold ic
 have w1:mf (EA ns js (some (ej os)))=some (.ok (.lst (js.map ek))):=fj cx (by omega) rfl
 rw [ay (aZ w1 rfl)]
 simp only [EA,D_,C_]
 have w2:mh [some (.scr ns),some (ej js),some (ej os),some (.lst (js.map ek)),none,none,none,none,none,none,none]=some (.ok (.lst (os.map ek))):=fj cx (by omega) rfl
 rw [ay (aZ w2 rfl)]
 simp only [D_,C_]
 have w3:mi [some (.scr ns),some (ej js),some (ej os),some (.lst (js.map ek)),some (.lst (os.map ek)),none,none,none,none,none,none]=some (.ok (i5 (fg js os))):=gl (by omega) Jj.g Jo.g rfl rfl
 rw [ay (aZ w3 rfl)]
 simp only [D_,C_]
 have w4:mj [some (.scr ns),some (ej js),some (ej os),some (.lst (js.map ek)),some (.lst (os.map ek)),some (i5 (fg js os)),none,none,none,none,none]=some (.ok (i5 (fg os js))):=gl (by omega) Jo.g Jj.g rfl rfl
 rw [ay (aZ w4 rfl)]
 simp only [D_,C_]
 have w5:ml [some (.scr ns),some (ej js),some (ej os),some (.lst (js.map ek)),some (.lst (os.map ek)),some (i5 (fg js os)),some (i5 (fg os js)),none,none,none,none]=some (.ok (.lst ((unN js os).map enc))) :=
  iY enc (fun n=>fY os n && !CF os n) enc (fW rfl) (by omega) fun n hn =>
   ⟨r8 (bX ((a5 (x:=ek n) (cz ai rfl (cx n)) rfl).trans (CG Jo.g (Jj.g n hn)).1)) (bX ((a5 (x:=enc n) (y:=ej os) rfl rfl).trans (Fx Jo.g (Jj.g n hn)))),rfl⟩
 rw [ay (aZ w5 rfl)]
 simp only [D_,C_]
 have ul:=r9 (xs:=js) (ys:=os)
 have q0:mn [some (.scr ns),some (ej js),some (ej os),some (.lst (js.map ek)),some (.lst (os.map ek)),some (i5 (fg js os)),some (i5 (fg os js)),some (.lst ((unN js os).map enc)),none,none,none]=some (.ok false):=by
  have g1:(fB1 eU (aa (aO [] (bj (ac 7)) none (ah ai 1 (aa (ac 0) ae))) ae)) [some (.scr ns),some (ej js),some (ej os),some (.lst (js.map ek)),some (.lst (os.map ek)),some (i5 (fg js os)),some (i5 (fg os js)),some (.lst ((unN js os).map enc)),none,none,none]=some (.ok (i5 (unN js os))) :=
   (dj (aj (bZ enc ek (dA rfl) (by omega) fun n _=>cz ai rfl (cx n)) aG)).trans (fJ (by omega))
  exact bX ((a5 (x:=chg js os) (y:=chg js os) (ig av rfl rfl rfl (EM Jj Jo)) (di (aj rfl (aj rfl (aj g1 aG))) (show 3≤100000 by omega))).trans (Cc (Cd Jj.g Jo.g) (by omega)))
 rw [ay (bW q0)]
 have q1:mo [some (.scr ns),some (ej js),some (ej os),some (.lst (js.map ek)),some (.lst (os.map ek)),some (i5 (fg js os)),some (i5 (fg os js)),some (.lst ((unN js os).map enc)),none,none,none]=some (.ok false) :=
  bX ((a5 (x:=ej (lh (mgd js os))) (y:=ej (lh (mgd js os))) (ig av rfl rfl rfl (EN Jj Jo hl)) (DN bY rfl rfl (pb Jj Jo))).trans (Cc (EG fun n hn=>oj Jj.k Jo.k Jj.g Jo.g n ((aH _ _).mem_iff.mp hn)) (by omega)))
 exact ⟨_,bW q1,rfl⟩
def mk (s:Str):Note:=⟨s,a_ "",a_ "a.b",true,a_ "/",none,false,a_ "any",0,0⟩
def mN:List Note:=([a_ "n0",a_ "n1",a_ "n2",a_ "n3",a_ "n4",a_ "n5",a_ "n6",a_ "n7",a_ "n8",a_ "n9",a_ "n10",a_ "n11",a_ "n12",a_ "n13",a_ "n14",a_ "n15",a_ "n16",a_ "n17",a_ "n18",a_ "n19"]:List Str).map mk
def zN:List Note:=[mk (a_ "z")]
theorem g1:av [.int 1,ej mN,ej zN]=some (.ok REF):=by kernel_rfl
def Cp (o:Option (Rs Dv)):Bool:=match o with
 | some (.ok (.tup l))=>l.length == 20
 | _=>false
theorem g2:Cp (av [.int 1,ej (mN.drop 1),ej zN])=true:=by kernel_rfl
def bads:List Dv:=[.non,.lst [],.tup [.tup []],ej (mN ++ zN),ej [mk (a_ "n0"),mk (a_ "n0")]]
theorem EO:(bads.all fun b=>okF (bt [b]))=true:=by kernel_rfl
theorem b_n {b:Dv} (h:b∈bads):bt [b]=bo false:=BW (el (p:=fun b=>okF (bt [b])) EO h)
def EB (ns:List Int) (js:List Note) (b:Option Dv):Ev:=[some (.scr ns),some (ej js),none,none,none,none,none,none,some (ej mN),some (ej zN),b]
theorem sH:f2 AI (dD (aa (bc (aa (fC (.str "refused")) (aa (fC (.int 0)) ae))) ae)) (fC (.int 2)) []=some (.ok (.lst [REF,REF])):=by kernel_rfl
theorem wj:neX (.lst [REF,REF]) (.lst [REF,REF])=some (.ok (.bl false)):=by kernel_rfl
theorem EQ (ns:List Int) {js:List Note} (J:Jar js) {b:Dv} (h:b∈bads):ie (EB ns js (some b))=some (.nx (EB ns js (some b))):=by
 have hb:=b_n h
 unfold ie
 have q4:mx (EB ns js (some b))=some (.ok false):=by
  have e:=bZ (cs:=[("_law_bad",10)]) (src:=bj (bc (aa (fC (.int 0)) (aa (fC (.int 1)) ae)))) (elt:=ah av 3 (aa (ac 0) (aa (ac 1) (aa (fC .non) ae)))) (ρ:=EB ns js (some b)) Dv.int (fun _=>REF) (l:=[0,1]) rfl (by simp) fun w hw=>ig av rfl (b:=b) rfl rfl (wg (by simpa using hw) (.inl hb))
  exact bX ((a5 e (show _=some (Rs.ok (Dv.lst [REF,REF])) from sH)).trans wj)
 rw [ay (bW q4)]
 have q5:my (EB ns js (some b))=some (.ok false):=by
  have e:=bZ (cs:=[("_law_jar_here",1),("_law_bad",10)]) (src:=bj (bc (aa (fC (.int 0)) (aa (fC (.int 1)) ae)))) (elt:=ah av 3 (aa (ac 0) (aa (ac 1) (aa (ac 2) ae)))) (ρ:=EB ns js (some b)) Dv.int (fun _=>REF) (l:=[0,1]) rfl (by simp) fun w hw=>ig av rfl (b:=ej js) rfl (c:=b) rfl (wg (by simpa using hw) (.inr ⟨rZ J,hb⟩))
  exact bX ((a5 e (show _=some (Rs.ok (Dv.lst [REF,REF])) from sH)).trans wj)
 exact bW q5
def nth (i:Nat):Note:=mN.getD i (mk (a_ ""))
def okN (i:Nat):Bool:=match f2 bb (fC (.str "n")) (fB1 AD (aa (ac 0) ae)) [some (.int (0 + (i:Int)))] with
 | some (.ok (.str x))=>seq x (nth i).nm
 | _=>false
theorem ER:((h_ 20).all okN)=true:=by kernel_rfl
theorem yN (ρ:Ev):mq ρ=some (.ok (ej mN)):=by
 have e0:(fun ρ=>bnd ((aa (fC (.int 20)) ae) ρ) lF) ρ=some (.ok ((h_ 20).map fun i:Nat=>Dv.int (0 + (i:Int)))):=by
  show lF [.int ((20:Nat):Int)]=_
  rw [v3 (by omega),jH]
 have e:(aO [] (fun ρ=>bnd ((aa (fC (.int 20)) ae) ρ) lF) none (bc (aa (f2 bb (fC (.str "n")) (fB1 AD (aa (ac 0) ae))) (aa (fC (.str "")) (aa (fC (.str "a.b")) (aa (fC (.bl true)) (aa (fC (.str "/")) (aa (fC .non) (aa (fC (.bl false)) (aa (fC (.str "any")) (aa (fC (.int 0)) (aa (fC (.int 0)) ae)))))))))))) ρ=some (.ok (.lst ((h_ 20).map fun i=>enc (mk (nth i).nm)))) :=
  bZ (fun i:Nat=>Dv.int (0 + (i:Int))) (fun i=>enc (mk (nth i).nm)) e0 (by simp) fun i hi=>by
   have h:=el ER hi
   unfold okN at h
   split at h
   · rename_i x hx
     rw [uW h] at hx
     exact di (aj hx (aj rfl (aj rfl (aj rfl (aj rfl (aj rfl (aj rfl (aj rfl (aj rfl (aj rfl aG)))))))))) (show 10≤100000 by omega)
   · cases h
 exact (dj (aj e aG)).trans (by kernel_rfl)
theorem ve (ns:List Int) (hl:ns.length≤63):rQ [.scr ns]=some (.ok (.bl true)):=by
 obtain ⟨js,now,eJ,J,hjl,JJ⟩:=rX ns hl 20 6 (by omega)
 obtain ⟨os,eO,Jo,hol⟩:=yM ns hl 120 JJ (by omega)
 obtain ⟨ps,now2,eP,Jp,hpl,_⟩:=rX ns hl 220 5 (by omega)
 refine c5 ?_
 show rP [some (.scr ns),none,none,none,none,none,none,none,none,none,none]=_
 unfold rP
 have w0:l8 [some (.scr ns),none,none,none,none,none,none,none,none,none,none]=some (.ok (ej js)):=ig aM rfl rfl rfl eJ
 rw [ay (aZ w0 rfl)]
 have Jn:Jar []:=⟨by simp,fun i h=>by simp at h,by simp,by simp⟩
 have h1:tf 2 [2,3,4,5,6,7] (bj (bc (aa (ah cm 3 (aa (ac 0) (aa (fC (.int 120)) (aa (ac 1) ae)))) (aa (ah aM 3 (aa (ac 0) (aa (fC (.int 220)) (aa (fC (.int 5)) ae)))) (aa (ac 1) (aa (bc ae) ae)))))) ic (EA ns js none)=some (.nx (EA ns js none)):=by
  rw [qa (ds:=[ej os,ej ps,ej js,ej []]) (rR (di (aj (ig cm rfl rfl rfl eO) (aj (ig aM rfl rfl rfl eP) (aj rfl (aj rfl aG)))) (show 4≤100000 by omega)))]
  refine ei (fun d hd=>?_) _ rfl
  simp only [p_,G_,or_false] at hd
  rcases hd with rfl | rfl | rfl | rfl
  · exact vb ns J Jo (by omega)
  · exact vb ns J Jp (by omega)
  · exact vb ns J J (by omega)
  · exact vb ns J Jn (by simp; omega)
 rw [show (([some (.scr ns),none,none,none,none,none,none,none,none,none,none]:Ev).set 1 (some (ej js)))=EA ns js none from rfl,ay h1]
 rw [ay (aZ (yN _) rfl)]
 simp only [EA,D_,C_]
 rw [ay (aZ (v:=mr) (d:=ej zN) (by kernel_rfl) rfl)]
 simp only [D_,C_]
 show bn _ _ (EB ns js none)=_
 have q2:mv (EB ns js none)=some (.ok false):=bX ((a5 (x:=REF) (y:=REF) (ig av rfl (b:=ej mN) rfl (c:=ej zN) rfl g1) rfl).trans (by kernel_rfl))
 rw [ay (bW q2)]
 have q3:mw (EB ns js none)=some (.ok false):=by
  have h:=g2
  unfold Cp at h
  split at h
  · rename_i l hx
    have e:=ig av (f:=fC (.int 1)) (g:=dk (ac 8) (cH (fC (.int 1))) dR) (k:=ac 9) (ρ:=EB ns js none) rfl (b:=ej (mN.drop 1)) (by kernel_rfl) rfl hx
    refine bX ((a5 (y:=.int 20) ((dj (aj e aG)).trans (show fR [.tup l]=some (.ok (.int (l.length:Nat))) by simp [fR])) rfl).trans ?_)
    rw [show l.length=20 by simpa using h]
    kernel_rfl
  · cases h
 rw [ay (bW q3)]
 have h2:tf 10 [10] (bj (bc (aa (fC .non) (aa (dD ae) (aa (bc (aa (bc ae) ae)) (aa (f2 bb (ac 8) (ac 9)) (aa (bc (aa (f2 ixD (ac 8) (fC (.int 0))) (aa (f2 ixD (ac 8) (fC (.int 0))) ae))) ae))))))) ie (EB ns js none)=some (.nx (EB ns js none)):=by
  rw [qa (ds:=bads) (by kernel_rfl)]
  exact ei (ρ:=EB ns js none) (fun d hd=>⟨EB ns js (some d),EQ ns J hd,rfl⟩) _ rfl
 rw [ay h2]
 rfl
end G
namespace G
open PySem PySem.Spec PyProof.Rows L2 FD
theorem walk {l:MR} {q:Program} {loose:List Str} {XP:(Str→Option Value)→Heap→Prop} {YP:x_→Heap→Prop} {d:DefRec} {K:M7→ck} (hn:l.most=some 63) (hdf:d.params.defaults=[])
 (hY:∀ (w:x_) (h:Heap),YP w h→(K w.params).In h)
 (F:∀ (w:x_) (mg:Str→Option Value) (fa:Addr) (h:Heap),(K w.params).In h→h.Ns w_ mg→mg d.name=some (.ref fa) →
   ∃ fd:Ha,(∀ (s:c_) (u:Value),LS s fd ⟨[u],[]⟩ [("_law_script",u)])∧∀ base:Heap,(K w.params).In base→base.Ns w_ mg→FnOk l.prog w (K w.params) mg base CX0 9 fa fd ["_law_script"] (spF (K w.params) rQ 1)) :
 O1 q loose XP YP l.row.toRowW d [] (fun f vs=>OM f vs) :=
 L2.walk_of (n:=63) (k:=9) (x:="_law_script") (CX:=fun _=>CX0) (sp:=fun w=>spF (K w.params) rQ 1) hn (by decide) hdf ⟨rfl,by decide,by decide⟩ hY F
  (fun _ _ a ns hl _ hS=>⟨[.scr ns],⟨.ref a,[],rfl,⟨a,rfl,hS⟩,rfl⟩,rfl,by rw [ve ns hl]; exact fun v H' _ r=>r⟩) fun _ _ _ _ _ z=>z
end G
open PySem PySem.W PyProof.Rows
set_option maxRecDepth 100000 in
theorem PySem.Challenge.cw_notejar_k55_comparing_holds : PySem.Challenge.rw_notejar_k55_comparing.Holds := by
 refine G.hld fun said=>?_
 refine PySem.W.holds_open (q:=G.VQ) (loose:=G.VL) (Xt:=fun s=>recOk [] s) (XP:=fun _ _=>True) (Yf:=Hook.obs (O4 G.KK G.KA G.KA_ok)) (Ya:=Hook.val (O4 G.KK G.KA G.KA_ok)) (YP:=Hook.says (O4 G.KK G.KA G.KA_ok)) (N:=3464) G.left (Hook.of (O4 G.KK G.KA G.KA_ok)) (Hook.keeps (O4 G.KK G.KA G.KA_ok)) (fun _ _=>trivial) (fun _ _ _ _ _=>trivial) (by rfl) (by rfl) (by rfl) (fun s e=>recFacts_of e) (by rfl) (by first | assumption | decide +kernel) (by decide +kernel) G.hbr ?hw ?hc
 (case hw=>w_witness2)
 refine G.walk (l:=PySem.Challenge.rw_notejar_k55_comparing) rfl rfl (fun w h Y=>PySem.W.kIn_of Y) ?F
 case F =>
  intro w mg fa h KX hG hmg
  exact G.all_mk (C5:=37) (CJ:=24) KX hG hmg (G.af 193 "law_notejar_k55_comparing" 447 192) (G.af 200 "law_notejar_k55_comparing" 447 199) (G.af 207 "law_notejar_k55_comparing" 447 206) (G.af 214 "law_notejar_k55_comparing" 447 213) (G.af 219 "law_notejar_k55_comparing" 447 218) (G.af 226 "law_notejar_k55_comparing" 447 225) (G.af 231 "law_notejar_k55_comparing" 447 230) (G.af 250 "law_notejar_k55_comparing" 447 249) (G.af 238 "law_notejar_k55_comparing" 447 237) (G.af 124 "notejar.notes" 332 123) (G.af 139 "notejar.jars" 370 138) (G.af 134 "notejar.jars" 370 133) (G.af 51 "notejar.kinds" 223 50) (G.af 84 "notejar.asks" 284 83) (G.af 91 "notejar.asks" 284 90) (G.af 44 "notejar.kinds" 223 43) (G.af 65 "notejar.names" 248 64) (G.af 70 "notejar.names" 248 69) (G.af 98 "notejar.giving" 302 97) (G.af 77 "notejar.paths" 271 76) (G.af 110 "notejar.giving" 302 109) (G.af 58 "notejar.kinds" 223 57) (G.af 103 "notejar.giving" 302 102) (G.af 117 "notejar.notes" 332 116) (G.af 129 "notejar.jars" 370 128) (G.af 146 "notejar.jars" 370 145) (G.af 158 "notejar.comparing" 406 157) (G.af 186 "notejar.comparing" 406 185) (G.af 179 "notejar.comparing" 406 178) (G.af 153 "notejar.jars" 370 152) (G.af 172 "notejar.comparing" 406 171) (G.af 165 "notejar.comparing" 406 164) (G.af 245 "law_notejar_k55_comparing" 447 244) (G.af 255 "law_notejar_k55_comparing" 447 254) (by kernel_rfl) (by kernel_rfl)
#print axioms PySem.Challenge.cw_notejar_k55_comparing_holds
