import PyProof.Rows.All
import Wide.All
import OpenK.AllK
import Wide.FinOn
import Lean
import PyProof.EqAt
import PyProof.EqKinds
import PyProof.TupleCall
import PySem.SetTable
import PyProof.SetKind
import PyProof.TupleKey
import PyProof.DictKinds
import PyProof.Rows.SetFrom
import PyProof.ZipIter
import PyProof.Conv_int
import PyProof.FactsAll.str
import PyProof.EnumIter
import PyProof.Rows.SortStr
import PyProof.Rows.SortWalk
import PyProof.Rows.MinMaxN
import PyProof.ConsumeWalk
import PyProof.CollectWalk
import PyProof.WalksMore
import PyProof.CollectStr
import PyProof.Rows.SortShellK
import PyProof.Rows.SortRunsK
import PyProof.SeqI3
import KE.KSortKey
import PyProof.Rows.CallKwBuiltin
import PyProof.SumAny
import KE.KDictSum
import PySem.Challenge.RW_notejar_k56_whole_compared
open PySem renaming wpAny_bind → a_, Shared → c_, wpAny_pure → d_, starEach → f_, wpAny → l_, model → s_, Around → u_, World → w_, assignEach → C_, mainGlobals → EA, compareOp → EF, foldedSetIterable → EJ, behindInMarks → EN, wpAny_mono → EO, cellsFrom → EX, backTo → EY, wpAny_callSpecial?_slot → Fj, swapsWith → Fk, wpAny_newObj_type → Fq, wpAny_call_entry → Ft, wpAny_holding → FB, FuncData → FL, wpAny_setState_of → FU, wpAny_field → F3, keywordEach → F4, bootBuiltins → F9, wpAny_typeNameOfWhole_valiter → Gk, wpAny_truthy_bool → Go, wpAny_Call_Name_kw → Gx, binaryOp → GN, wpAny_typeNameOf_valiter → GR, sysModules → GS, setSearchFrom → GT, attributeBase → GU, mem_of_lookup → GX, Keyword → GY, wpAny_getItem_str_slice → G0, backToKw → G1, NameKind → G3, wpAny_setField_rec → G9, wpAny_isOneOf_valiter → Hm, assign → Hn, sizeLine_eq → Ht, wpAny_forIn_list → Hy, wpAny_attempt → HJ, wpAny_passesOwn → HP, wpAny_pyIter_tuple → HS, sliceBounds → HY, PassesOwn → Ia, wpAny_typeOf → Ih, codeAny_mono → Ii, wpAny_rule → II, typeIs_str → IJ, wpAny_loadPart' → IW, rawInt → IX, pyNext → IY, post_val_or_str → IZ, letOwnedTupleGo → I0, codeAny → Jd, wpAny_setField → Ji, wpAny_seqItems → Jj, wpAny_fieldsOf → Jk, firstArgMember → Jl, closureFor → Jm, GenState → Jt, wpAny_pyIter_list → JE, wpAny_dictEntries → JF, unsupported → JG, Builtin → JL, wpAny_newList → JR, wpAny_comprehension_free → JS, strKind → JU, tupleKind → J4, noFill_tuple_add → J6, setAddHashed → Kn, richCompare_meets_room → Ko, notedBy → Kp, getItem → Kq, call_meets → Kr, IsPart → Kw, BindsTo → KB, wpAny_execs_nil → KJ, wpAny_dictEpoch → KL, codeAny_builtin → KM, wpAny_eqIsQuiet_tuple → KS, wpAny_newTuple → KZ, newFunctionEnv → K0, lookup_relabel_local → K1, Params → K5, IsEnum → K7, treeTable → Lh, callerA → Li, Fin → Lk, seq_tuple_add → Lw, Model → LA, builtinsNs → LF, valueAt → LR, list_append → LS, concat_meets → LU, compEnvC → LV, Result → Mh, subscripted → Mt, strIterType → Mu, holding → MD, setField → MF, isSame → MG, field → MH, call → MI, boot_len → MJ, bindL → MK, bindC → ML, atKey → MM, Paired → MQ, ItemsAre → MR
open PySem.Str renaming ofString → b_
open PySem.W renaming Frag → ck, kia_one → FF, keepIn → F0, emptyDict → F_, instObj → GI, nsIn → GO, kitOne → G2, fnOf → G_, findIn → Ij, codeIn → Jn, methodObj → JH, mg_of → JV, cellsFrom_some → Ks, OpenLaw → KN, lookIn → K2, specialIn → LW, openEnds → LX, kitx_list → LY, kitx_dict → LZ, plainGet → Mc, WalkO → MW, kHook → MZ, isFn → M5
open PySem.Heap renaming get?_push_of_some → e_, get?_push_size → o_, lt_size → q_, size_push → Fw, SameBut → FJ, get?_update_ne → FN, get?_push_ne → Gp, size_update → G4, get?_update_self → ID, get?_none_of_le → IS, get?_update_other → Kx, ExtBut → Mv
open List renaming range → g_, mem_cons_self → h_, mem_cons_of_mem → k_, mem_map → m_, getElem?_eq_getElem → n_, mem_cons → pi, mem_append_right → rl, map_cons → t_, getElem?_set_ne → v_, pairwise_cons → xy, size_toArray → x_, map_append → y_, mem_append → A_, getElem?_eq_some_iff → B_, mem_filter → D_, getElem?_map → Ex, length_map → Ey, getElem?_set_self → ED, mem_singleton → EE, length_cons → EG, mem_range → EH, getElem?_eq_none → EI, lookup_cons → ET, length_set → EV, all_eq_true → E6, mem_append_left → E7, map_map → E_, length_append → Fc, mem_of_getElem? → Fy, getElem?_append_right → Fz, not_mem_nil → FK, map_congr_left → FQ, pairwise_map → FY, any_cons → F8, getElem?_range → Gd, nodup_cons → Gf, getElem?_append_left → Gg, replicate → Gm, nodup_append → Gq, length_eq_zero_iff → Gr, find?_cons → Gu, all_cons → Gw, set_cons_zero → Gz, set_cons_succ → GA, mem_filterMap → GB, pairwise_iff_getElem → GH, getD → GK, filterMap_cons → GZ, filter_cons_of_neg → G6, lookup_append → He, length_replicate → Hq, length_filter_le → Hr, pairwise_append → Hw, drop_length → HC, toList_toArray → HG, getElem_of_mem → HH, filter_sublist → HI, foldl_cons → HR, find?_eq_none → HW, getElem?_replicate → Ic, filter_cons_of_pos → Ie, pairwise_lt_range → Iv, map_nil → Iw, length_range → Ix, filter_eq_nil_iff → Iy, ext_getElem? → Iz, length_take → IN, eq_nil_iff_forall_not_mem → IP, append_nil → Ja, filterMap_map → JB, mem_of_find?_eq_some → JC, sublist_append_left → JZ, pairwise_singleton → Kg, length_drop → Kh, getElem_mem → Ki, getElem?_cons_succ → Kj, any_eq_true → Kk, range_succ_eq_map → KG, of_mem_zip → KP, nil_append → KQ, find?_some → KR, length_singleton → KY, not_lt → Lb, mem_of_mem_drop → Lc, lt_irrefl → Ld, forIn_nil → Le, perm_iff_count → Lv, lt_trans → LC, zip_cons_cons → LN, take_sublist → L7, mapM_toArray → L8, filter_congr → L9, append_assoc → L_, le_antisymm → Mp, getElem_zip → Mq, filter_cons → Mr, length → Mx, range_succ → Mz, forIn_cons → MB
open Bool renaming false_eq_true → i_, and_eq_true → on, false_ne_true → p_, and_eq_true_iff → Fa, eq_iff_iff → Fh, not_true → Hl, not_false → Hx, not_eq_true' → IB, true → Kl, and_false → Lf, or_false → LD, false → LO
open Nat renaming le_refl → j_, ne_of_lt → z_, lt_of_lt_of_le → Ez, zero_le → EK, le_trans → EM, lt_irrefl → FH, ne_of_beq_eq_false → Ga, lt_succ_of_lt → Gb, le_of_lt_succ → Gc, not_lt_zero → Gs, le_succ → G7, zero_add → Hc, succ_pos → Hd, le_of_eq → HB, mod_lt → HV, le_of_lt → Iu, le_of_ble_eq_true → IF, eq_of_beq_eq_true → IG, ne_of_gt → Jg, lt_trans → Jh, beq → JP, min_le_right → Ke, add_sub_cancel_left → Kf, lt_of_le_of_lt → LL, succ_add → L6, lt_succ_self → Mm, le_of_not_lt → Mn
open PySem.Value renaming ref → r_, none → EQ, type → EZ, bool → F1, isStrOf → HK, str → HZ, notImplemented → K3, int → Lj, isStrOf_shape → Lp, builtin → Lx
open PySem.SetTable renaming insertAt → uk, leap → Hj, runEnd → IK, turns → IR, grown → Jr, insertAt_perm → Ku, sameMemory → Lq, tooFull → Me, gaveWay → Mf, advance → Mg, probe → MN, layClean → MO, slot → MX, fill → MY
open Option renaming map_eq_some_iff → EB, none → Fx, map_some → Ge, some → GQ, isSome_iff_exists → GW, all_some → KO, isSome_some → LK, getD_none → Ml
open PySem.Obj renaming mapSeq → ER, data_mapFields → HU, putSet → Js, isFreed_of_fields → KU, mk → K6, mapFields → Lz, cls_mapFields → L4
open PyProof.Rows renaming seqObj → ES, slot_tuple_getitem → Fe, callWith_type1 → F5, listUpdate_at → Hk, get?_update_seq → HQ, listItems_at → Iq, SortSt → Ir, size_push' → IL, callWith_builtin1 → IM, arrOf → IV, AllBare → Jf, envOfC → JA, seqEpoch_at → JM, pairsOf → JO, pendingOf → Ka, SortKind → Kb, subscriptTail_builtinR → KC, pairsOf_size → KF, failedOf → La, oneLt'_eq → Lm, IntsAre → Ln, lt_str → Lu, Keyed → LB, typeIs_bool' → L5, tuples' → ME, IsTup → MT
open Option.some renaming inj → EU, injEq → GP
open PySem.PyData renaming eqv → EW, canLay0 → Fm, canLayAll0 → FX, eqvAll → Gi, depthAll → GJ, depth → Ik
open Array renaming mem_toList_iff → Fb, getD_eq_getD_getElem? → Fd, length_toList → Fg, getElem?_eq_some_iff → Fp, getElem?_eq_getElem → FM, getElem?_toList → FZ, size_map → GC, getElem?_map → GD, replicate → GM, forIn_toList → HX, mem_of_getElem? → IH, getElem?_setIfInBounds → Jc, toList_push → JQ, size_setIfInBounds → J0, toList_filterMap → KH, foldl_toList → LP, append_assoc → LQ, getElem_mem → Ma, mem_filter → Ms
open PySem.F renaming slot_dict_valueiterator_next → Ff, slot_tuple_iterator_next → Gy, called_set → Ha, slot_enumerate_next → Ho, args_dict_valueiterator_next_1 → Hv, entry_dict_valueiterator_next → Hz, args_tuple_add_2 → HL, entry_tuple_add → Ib, slot_str_split → Ig, slot_tuple_add → Il, slot_dict_get → IE, slot_list_append → IT, slot_dict_values_iter → IU, args_tuple_iterator_next_1 → I_, entry_tuple_iterator_next → Je, args_str_split_2 → Ju, entry_str_split → JK, slot_dict_values → JX, plainAttrs_dict → J8, args_enumerate_next_1 → J9, args_dict_get_3 → J_, entry_enumerate_next → Ky, entry_dict_get → Kz, args_list_append_2 → K8, entry_list_append → Lr
open False renaming elim → Fu
open PySem.Builtin.Str renaming occurrences → Fv, strKind → Ls
open PySem.SetTable.layClean renaming free → F6
open PySem.NameKind renaming free → F7, cell → Gj
open Int renaming emod_lt_of_pos → Gh, emod_nonneg → GL, toNat_natCast → IA
open PySem.Heap.SameBut renaming update → Gv
open Ne renaming symm → GE
open PySem.Builtin.SmallTypes renaming nextOf → GF, ownedTupleHandOut → HF, ownedTupleIsFree → HM
open PySem.Builtin.Slice renaming slicePlaces → GG, sliceAdjust → HE, sliceApplied → Jz
open PySem.Builtin.Tuple renaming tupleExact → GV, tupleCompareSizes → IC, tupleItemsOf → Jw
open PyProof.Rows.F renaming plain_set_update_loop → G5, entry_set_update_loop → Kc
open True renaming intro → G8
open PySem.Calls renaming spliced_cons → Hb, spliced_nil → Im, callWith_builtin → Io, Name_function_global → Jv, evalArgs_plain → K9
open List.Nodup renaming sublist → Hh
open PySem.Builtin.Dict_items renaming ownsTuple → Hi, newIterator → Mj, dictOf → MV
open List.Pairwise renaming nil → Hs
open PySem.SetTable.probe renaming go → Hu
open Function renaming comp → HN
open PySem.Txt renaming split → H_, startswith → Jq, slice_le → Kt, endswith → L0, slice → Md
open PySem.Builtin.List renaming listItems → Ip
open List.Sublist renaming map → IQ
open ForInStep renaming yield → Jb
open Classical renaming byContradiction → JD
open PySem.Paired renaming length → JW
open PySem.AutoSeq1 renaming sub_tuple_tuple → JY
open PySem.SetTable.below renaming go → J7
open Sum renaming inr → Km, inl → Lg
open StateT renaming run_pure → KI
open PySem.Builtin.Dict renaming showsAll → KW
open PySem.SeqAt.EqAt renaming bool_bool → K4, str_int → LG, int_str → LH
open PySem.Around renaming under_plainId → K_
open PySem.Data renaming dict → Ll, fields → Mw
open LawfulBEq renaming eq_of_beq → Lo
open PySem.Shared renaming TypeIs → Ly
open PySem.ClassData renaming mk → LJ
open Std.Legacy renaming Range → Mb
open PySem.IsL renaming update → Mi
open PySem.Builtin.Frozenset renaming updateFrom → My
open List.cons renaming injEq → MC
open PySem.SetFound renaming there → MP
open PyProof.Rows.SortSt renaming mk' → MS
open List.Perm renaming swap → MU
open PyProof.Rows.IsTup renaming new → M3
open ForIn renaming forIn → M4
open Iff renaming rfl → M6
set_option maxHeartbeats 4000000
set_option Elab.async false
namespace G
open PySem PySem.W PyProof.Rows
noncomputable def hT (i:Nat):Stmt:=PySem.Challenge.pw_notejar_k56_whole_compared.main.body.getD i (.Pass ⟨0,0,0,0⟩)
noncomputable def hA (s:Stmt):Arguments:=match s with
 | .FunctionDef _ a _ _ _ _ _ _ _ _=>a
 | _=>{ posonlyargs:=[],args:=[],vararg:=none,kwonlyargs:=[],kw_defaults:=[],kwarg:=none,defaults:=[] }
noncomputable def hB (s:Stmt):List Stmt:=match s with
 | .FunctionDef _ _ b _ _ _ _ _ _ _=>b
 | _=>[]
noncomputable def hS (s:Stmt):Scope:=match s with
 | .FunctionDef _ _ _ _ _ _ sc _ _ _=>sc
 | _=>{ kind:=.function,names:=[],isGenerator:=false,isCoroutine:=false }
noncomputable abbrev kS (s:String) (t:Nat):Value:=.str (b_ s) t
noncomputable abbrev kR (a:Nat):Value:=.ref a
noncomputable abbrev kI (i:Int) (t:Nat):Value:=.int i t
noncomputable abbrev kE (P:K5) (s:String) (t:Nat) (v:Value):DictEntry:=⟨PySem.PyData.keyHash P (b_ s),.str (b_ s) t,v⟩
noncomputable def kF (x:String) (i:Nat) (m:String) (t c:Nat):Obj:=K6 (EZ "function") Fx (Data.func (fnOf (b_ x) (b_ x) (hA (hT i)) (hB (hT i)) (hS (hT i)) .none EQ EQ (kS m t) Fx (kR c) EQ)) #[]
noncomputable def kC (x:String) (a b c:Nat) (d e f:Int) (g:Nat) (h:Int) (i j:Nat) (k l:Int) (m:Nat):Obj:=K6 (EZ "code") Fx (Mw #[kS x a,kS x b,kS "/claim/cut.py" c,kI d 0,kI e 0,kI 0 0,kI 0 0,kI f 0,kR g,F1 Kl,kI h 0,kR i,EQ,EQ,EQ,kR j,kI k 0,kI l 0,kS "/claim/cut.py" m]) #[]
noncomputable def kD (x:String) (a b c:Nat) (d e f:Int) (g:Nat) (h:Int) (i u v j:Nat) (k l:Int) (m:Nat):Obj:=K6 (EZ "code") Fx (Mw #[kS x a,kS x b,kS "/claim/cut.py" c,kI d 0,kI e 0,kI 0 0,kI 0 0,kI f 0,kR g,F1 Kl,kI h 0,kR i,EQ,kR u,kR v,kR j,kI k 0,kI l 0,kS "/claim/cut.py" m]) #[]
noncomputable def KKa (P:K5):Frag:=[(2,K6 EQ Fx (Ll #[]) #[]),
 (3,K6 (EZ "dict") Fx (Ll #[kE P "__name__" 165 (kS "law_notejar_k56_whole_compared" 447),kE P "__doc__" 166 EQ,kE P "__package__" 167 EQ,kE P "__loader__" 168 (Lx "__main__.__loader__#opaque"),kE P "__spec__" 169 EQ,kE P "__annotations__" 170 (kR 6),kE P "__builtins__" 171 (kR 4),kE P "__file__" 173 (kS "/claim/cut.py" 172),kE P "__cached__" 174 EQ,kE P "JarError" 206 (kR 24),kE P "NoJar" 222 (kR 37),kE P "is_text_of" 230 (kR 44),kE P "is_whole_number" 239 (kR 51),kE P "is_tuple_of" 247 (kR 58),kE P "FIGURES" 251 (kS "0123456789" 250),kE P "LABEL_SIGNS" 253 (kS "abcdefghijklmnopqrstuvwxyz0123456789-" 252),kE P "LONGEST_LABEL" 255 (kI 8 254),kE P "MOST_LABELS" 257 (kI 5 256),kE P "is_label" 264 (kR 65),kE P "is_name" 270 (kR 70),kE P "PATH_SIGNS" 274 (kS "abcdefghijklmnopqrstuvwxyz0123456789-_./" 273),kE P "LONGEST_PATH" 276 (kI 20 275),kE P "is_path" 283 (kR 77),kE P "LAST_MOMENT" 287 (kI 9999 286),kE P "is_moment" 294 (kR 84),kE P "is_moment_or_none" 301 (kR 91),kE P "NOTE_NAME_SIGNS" 305 (kS "abcdefghijklmnopqrstuvwxyzABCDEFGHIJKLMNOPQRSTUVWXYZ0123456789-_" 304),kE P "LONGEST_NOTE_NAME" 307 (kI 10 306),kE P "NO_WORTH_SIGNS" 309 (kS ";,=" 308),kE P "LONGEST_WORTH" 311 (kI 12 310),kE P "is_note_name" 318 (kR 98),kE P "is_worth" 324 (kR 103),kE P "is_reach" 331 (kR 110),kE P "NOTE_NAME" 335 (kI 0 334),kE P "NOTE_WORTH" 337 (kI 1 336),kE P "NOTE_HOUSE" 339 (kI 2 338),kE P "NOTE_EXACT" 341 (kI 3 340),kE P "NOTE_PATH" 343 (kI 4 342),kE P "NOTE_ENDS" 345 (kI 5 344),kE P "NOTE_SAFE" 347 (kI 6 346),kE P "NOTE_REACH" 349 (kI 7 348),kE P "NOTE_MADE" 351 (kI 8 350),kE P "NOTE_USED" 353 (kI 9 352),kE P "NOTE_PARTS" 355 (kI 10 354),kE P "is_note" 362 (kR 117),kE P "key" 369 (kR 124),kE P "MOST_NOTES" 373 (kI 20 372),kE P "is_jar" 379 (kR 129),kE P "is_by_made" 385 (kR 134),kE P "has_no_key_twice" 391 (kR 139),kE P "need_jar" 398 (kR 146),kE P "need_no_more_than_a_jar_has" 405 (kR 153),kE P "changed" 413 (kR 158),kE P "merged" 424 (kR 165),kE P "place_of" 431 (kR 172),kE P "later_of" 439 (kR 179),kE P "when_last" 446 (kR 186),kE P "_law_cell" 456 (kR 193),kE P "_law_drawn" 466 (kR 200),kE P "_law_name" 475 (kR 207),kE P "_law_path" 484 (kR 214),kE P "_law_jar" 490 (kR 219),kE P "_law_key" 497 (kR 226),kE P "_law_like" 503 (kR 231),kE P "_law_stays" 509 (kR 236),kE P "law" 515 (kR 241)] 66) #[]),
 (23,K6 (EZ "dict") Fx (Ll #[kE P "__module__" 196 (kS "notejar.errors" 187),kE P "__firstlineno__" 200 (kI 2 199),kE P "__static_attributes__" 201 (kR 22),kE P "__weakref__" 203 (kR 25),kE P "__doc__" 204 EQ] 3) #[]),
 (24,K6 (EZ "type") Fx (Data.cls (LJ (b_ "JarError") [EZ "ValueError"] [kR 24,EZ "ValueError",EZ "Exception",EZ "BaseException",EZ "object"] 23 (b_ "JarError") Kl [] [kR 37] LO Fx LO)) #[GQ (kR 15),Fx,GQ (kS "JarError" 189),GQ (kS "JarError" 197),GQ (Lx "ValueError.__new__"),GQ (F1 Kl)]),
 (36,K6 (EZ "dict") Fx (Ll #[kE P "__module__" 214 (kS "notejar.errors" 187),kE P "__firstlineno__" 218 (kI 4 217),kE P "__static_attributes__" 219 (kR 35),kE P "__doc__" 220 EQ] 2) #[]),
 (37,K6 (EZ "type") Fx (Data.cls (LJ (b_ "NoJar") [kR 24] [kR 37,kR 24,EZ "ValueError",EZ "Exception",EZ "BaseException",EZ "object"] 36 (b_ "NoJar") Kl [] [] LO Fx LO)) #[GQ (kR 28),Fx,GQ (kS "NoJar" 207),GQ (kS "NoJar" 215),GQ (Lx "ValueError.__new__"),GQ (F1 Kl)]),
 (43,kC "is_text_of" 225 226 227 7 4 3 40 181 41 42 228 7 229),
 (44,kF "is_text_of" 4 "notejar.kinds" 223 43),
 (50,kD "is_whole_number" 231 232 233 13 3 3 45 181 46 47 48 49 237 13 238),
 (51,kF "is_whole_number" 5 "notejar.kinds" 223 50),
 (57,kD "is_tuple_of" 240 241 242 17 2 3 52 181 53 54 55 56 245 17 246),
 (58,kF "is_tuple_of" 6 "notejar.kinds" 223 57),
 (64,kD "is_label" 258 259 260 24 1 3 59 181 60 61 62 63 262 24 263),
 (65,kF "is_label" 12 "notejar.names" 248 64),
 (69,kC "is_name" 265 266 267 28 1 3 66 181 67 68 268 28 269),
 (70,kF "is_name" 13 "notejar.names" 248 69),
 (76,kD "is_path" 277 278 279 38 1 3 71 181 72 73 74 75 281 38 282),
 (77,kF "is_path" 17 "notejar.paths" 271 76),
 (83,kD "is_moment" 288 289 290 42 1 3 78 181 79 80 81 82 292 42 293),
 (84,kF "is_moment" 20 "notejar.asks" 284 83),
 (90,kD "is_moment_or_none" 295 296 297 44 1 3 85 181 86 87 88 89 299 44 300),
 (91,kF "is_moment_or_none" 21 "notejar.asks" 284 90),
 (97,kD "is_note_name" 312 313 314 51 1 3 92 181 93 94 95 96 316 51 317),
 (98,kF "is_note_name" 27 "notejar.giving" 302 97),
 (102,kC "is_worth" 319 320 321 53 1 3 99 181 100 101 322 53 323),
 (103,kF "is_worth" 28 "notejar.giving" 302 102),
 (109,kD "is_reach" 325 326 327 57 1 3 104 181 105 106 107 108 329 57 330),
 (110,kF "is_reach" 29 "notejar.giving" 302 109),
 (116,kD "is_note" 356 357 358 71 1 3 111 181 112 113 114 115 360 71 361),
 (117,kF "is_note" 42 "notejar.notes" 332 116),
 (123,kD "key" 363 364 365 77 1 3 118 181 119 120 121 122 367 77 368),
 (124,kF "key" 43 "notejar.notes" 332 123),
 (128,kC "is_jar" 374 375 376 81 1 3 125 181 126 127 377 81 378),
 (129,kF "is_jar" 46 "notejar.jars" 370 128),
 (133,kC "is_by_made" 380 381 382 87 1 3 130 181 131 132 383 87 384)]
noncomputable def KKb (P:K5):Frag:=[(134,kF "is_by_made" 47 "notejar.jars" 370 133),
 (138,kC "has_no_key_twice" 386 387 388 89 1 3 135 181 136 137 389 89 390),
 (139,kF "has_no_key_twice" 48 "notejar.jars" 370 138),
 (145,kD "need_jar" 392 393 394 92 1 3 140 181 141 142 143 144 396 92 397),
 (146,kF "need_jar" 49 "notejar.jars" 370 145),
 (152,kD "need_no_more_than_a_jar_has" 399 400 401 95 1 3 147 181 148 149 150 151 403 95 404),
 (153,kF "need_no_more_than_a_jar_has" 50 "notejar.jars" 370 152),
 (157,kC "changed" 408 409 410 99 2 3 154 181 155 156 411 99 412),
 (158,kF "changed" 52 "notejar.comparing" 406 157),
 (164,kD "merged" 414 415 416 108 2 3 159 181 160 161 162 163 422 108 423),
 (165,kF "merged" 53 "notejar.comparing" 406 164),
 (171,kD "place_of" 425 426 427 119 1 3 166 181 167 168 169 170 429 119 430),
 (172,kF "place_of" 54 "notejar.comparing" 406 171),
 (178,kD "later_of" 432 433 434 121 2 3 173 181 174 175 176 177 437 121 438),
 (179,kF "later_of" 55 "notejar.comparing" 406 178),
 (185,kD "when_last" 440 441 442 125 1 3 180 181 181 182 183 184 444 125 445),
 (186,kF "when_last" 56 "notejar.comparing" 406 185),
 (192,kD "_law_cell" 449 450 451 128 2 3 187 181 188 189 190 191 454 128 455),
 (193,kF "_law_cell" 58 "law_notejar_k56_whole_compared" 447 192),
 (199,kD "_law_drawn" 457 458 459 132 3 3 194 181 195 196 197 198 464 132 465),
 (200,kF "_law_drawn" 59 "law_notejar_k56_whole_compared" 447 199),
 (206,kD "_law_name" 467 468 469 136 2 3 201 181 202 203 204 205 473 136 474),
 (207,kF "_law_name" 60 "law_notejar_k56_whole_compared" 447 206),
 (213,kD "_law_path" 476 477 478 140 2 3 208 181 209 210 211 212 482 140 483),
 (214,kF "_law_path" 61 "law_notejar_k56_whole_compared" 447 213),
 (218,kC "_law_jar" 485 486 487 143 3 3 215 181 216 217 488 143 489),
 (219,kF "_law_jar" 62 "law_notejar_k56_whole_compared" 447 218),
 (225,kD "_law_key" 491 492 493 161 1 3 220 181 221 222 223 224 495 161 496),
 (226,kF "_law_key" 63 "law_notejar_k56_whole_compared" 447 225),
 (230,kC "_law_like" 498 499 500 163 3 3 227 181 228 229 501 163 502),
 (231,kF "_law_like" 64 "law_notejar_k56_whole_compared" 447 230),
 (235,kC "_law_stays" 504 505 506 176 4 3 232 181 233 234 507 176 508),
 (236,kF "_law_stays" 65 "law_notejar_k56_whole_compared" 447 235),
 (240,kC "law" 510 511 512 180 1 3 237 181 238 239 513 180 514),
 (241,kF "law" 66 "law_notejar_k56_whole_compared" 447 240)]
noncomputable def KK (P:K5):Frag:=KKa P ++ KKb P
noncomputable def KAa:List Addr:=[2,3,23,24,36,37,43,44,50,51,57,58,64,65,69,70,76,77,83,84,90,91,97,98,102,103,109,110,116,117,123,124,128,129,133]
noncomputable def KAb:List Addr:=[134,138,139,145,146,152,153,157,158,164,165,171,172,178,179,185,186,192,193,199,200,206,207,213,214,218,219,225,226,230,231,235,236,240,241]
noncomputable def KA:List Addr:=KAa ++ KAb
theorem KA_ok (P:K5):KA=(KK P).map (·.1):=by kernel_rfl
noncomputable def VQ:Program:=view PySem.Challenge.pw_notejar_k56_whole_compared [66]
theorem hbr:PySem.Challenge.rw_notejar_k56_whole_compared.row.prog.bare:=⟨rfl,rfl,rfl,rfl,rfl,by decide +kernel⟩
set_option maxRecDepth 100000 in
theorem hld (h:PySem.Challenge.rw_notejar_k56_whole_compared.row.wellSaid=true→PySem.Challenge.rw_notejar_k56_whole_compared.row.Holds):PySem.Challenge.rw_notejar_k56_whole_compared.Holds:=by
 w_on; o_law
 exact h (by assumption)
noncomputable def VL:List Str:=[b_ "JarError",b_ "NoJar",b_ "is_text_of",b_ "is_whole_number",b_ "is_tuple_of",b_ "FIGURES",b_ "LABEL_SIGNS",b_ "LONGEST_LABEL",b_ "MOST_LABELS",b_ "is_label",b_ "is_name",b_ "PATH_SIGNS",b_ "LONGEST_PATH",b_ "is_path",b_ "LAST_MOMENT",b_ "is_moment",b_ "is_moment_or_none",b_ "NOTE_NAME_SIGNS",b_ "LONGEST_NOTE_NAME",b_ "NO_WORTH_SIGNS",b_ "LONGEST_WORTH",b_ "is_note_name",b_ "is_worth",b_ "is_reach",b_ "NOTE_NAME",b_ "NOTE_WORTH",b_ "NOTE_HOUSE",b_ "NOTE_EXACT",b_ "NOTE_PATH",b_ "NOTE_ENDS",b_ "NOTE_SAFE",b_ "NOTE_REACH",b_ "NOTE_MADE",b_ "NOTE_USED",b_ "NOTE_PARTS",b_ "is_note",b_ "key",b_ "MOST_NOTES",b_ "is_jar",b_ "is_by_made",b_ "has_no_key_twice",b_ "need_jar",b_ "need_no_more_than_a_jar_has",b_ "changed",b_ "merged",b_ "place_of",b_ "later_of",b_ "when_last",b_ "_law_cell",b_ "_law_drawn",b_ "_law_name",b_ "_law_path",b_ "_law_jar",b_ "_law_key",b_ "_law_like",b_ "_law_stays"]
theorem DM {α β γ:Type} {o:Option α} {f:α→β} {g:α→γ} {a:β} {b:γ} (h1:o.map f=some a) (h2:o.map g=some b):o.map (fun s=>(f s,g s))=some (a,b):=by
 cases o with
 | none=>cases h1
 | some x=>cases h1; cases h2; rfl
set_option maxRecDepth 100000 in
theorem Bw (w:w_):(LX Lh PySem.Challenge.pw_notejar_k56_whole_compared w 3340).map (openSeen VQ VL (importedModules PySem.Challenge.pw_notejar_k56_whole_compared.main.body) (fun s=>recOk [] s) true)=some (openGood VQ VL):=by kernel_rfl
set_option maxRecDepth 100000 in
theorem xV (w:w_):(LX Lh PySem.Challenge.pw_notejar_k56_whole_compared w 3340).map (fun s=>KAa.map s.heap.get?)=some ((KKa w.params).map fun p=>some p.2):=by kernel_rfl
set_option maxRecDepth 100000 in
theorem xW (w:w_):(LX Lh PySem.Challenge.pw_notejar_k56_whole_compared w 3340).map (fun s=>KAb.map s.heap.get?)=some ((KKb w.params).map fun p=>some p.2):=by kernel_rfl
theorem rS {α β γ:Type} {o:Option α} {f:α→β→γ} {A B:List β} {X Y:List γ} (h1:o.map (fun s=>A.map (f s))=some X) (h2:o.map (fun s=>B.map (f s))=some Y):o.map (fun s=>(A ++ B).map (f s))=some (X ++ Y):=by
 cases o with
 | none=>cases h1
 | some x=>cases h1; cases h2; simp
theorem Bx (w:w_):(LX Lh PySem.Challenge.pw_notejar_k56_whole_compared w 3340).map (fun s=>KA.map s.heap.get?)=some ((KK w.params).map fun p=>some p.2):=by
 show (LX Lh PySem.Challenge.pw_notejar_k56_whole_compared w 3340).map (fun s=>(KAa ++ KAb).map s.heap.get?)=some ((KKa w.params ++ KKb w.params).map fun p=>some p.2)
 rw [y_]
 exact rS (f:=fun s:c_=>s.heap.get?) (xV w) (xW w)
theorem left:LeftO PySem.Challenge.pw_notejar_k56_whole_compared VQ VL (fun s=>recOk [] s) (Hook.obs (MZ KK KA KA_ok)) (Hook.val (MZ KK KA KA_ok)) 3340:=fun w=>DM (Bw w) (Bx w)
end G
set_option Elab.async false
set_option linter.all false
set_option maxRecDepth 100000
namespace L2
open PySem PySem.Spec PyProof.Rows
abbrev Key:=Sum Int Str
def nA:Key→Value→Bool
 | .inl k,v=>Value.isInt k v
 | .inr x,v=>HK x v
def DN (w:w_):Key→Int
 | .inl k=>hashInt k
 | .inr x=>hashStr w x
theorem aU:∀ {k:Key} {v:Value},nA k v=true→(∃ i t,k=Lg i∧v=Lj i t)∨(∃ x t,k=Km x∧v=HZ x t)
 | .inl i,v,h=>by
  obtain ⟨t,e⟩:=Value.isInt_shape (k:=i) (v:=v) h
  exact .inl ⟨i,t,rfl,e⟩
 | .inr x,v,h=>by
  obtain ⟨t,e⟩:=Lp (x:=x) (v:=v) h
  exact .inr ⟨x,t,rfl,e⟩
theorem oG (i:Int) (t:Tok):nA (.inl i) (.int i t)=true:=by simp [nA,Value.isInt]
theorem oH (x:Str) (t:Tok):nA (.inr x) (.str x t)=true:=by simp [nA,HK]
theorem xX (a b:Int):decide ((Lg a:Key)=Lg b)=(a == b):=by
 by_cases e:a=b
 · subst e; simp
 · have h:¬ (Lg a:Key)=Lg b:=fun q=>e (Sum.inl.inj q)
   rw [decide_eq_false h]
   exact (beq_eq_false_iff_ne.mpr e).symm
theorem xY (a b:Str):decide ((Km a:Key)=Km b)=decide (a=b):=by
 by_cases e:a=b
 · subst e; simp
 · have h:¬ (Km a:Key)=Km b:=fun q=>e (Sum.inr.inj q)
   rw [decide_eq_false h,decide_eq_false e]
theorem xZ (a:Int) (b:Str):decide ((Lg a:Key)=Km b)=false:=decide_eq_false (fun q=>nomatch q)
theorem x3 (a:Str) (b:Int):decide ((Km a:Key)=Lg b)=false:=decide_eq_false (fun q=>nomatch q)
def bm (prog:Program) (w:w_):PySem.KeyKind prog w Key where
 is:=nA
 hash:=DN w
 inj:=fun v a b ha hb=>by
  rcases aU ha with ⟨i,t,rfl,rfl⟩ | ⟨x,t,rfl,rfl⟩
  · rcases aU hb with ⟨j,u,rfl,e⟩ | ⟨y,u,rfl,e⟩
    · injection e with e1 _; rw [e1]
    · exact nomatch e
  · rcases aU hb with ⟨j,u,rfl,e⟩ | ⟨y,u,rfl,e⟩
    · exact nomatch e
    · injection e with e1 _; rw [e1]
 byValue:=fun k v h=>by
  rcases aU h with ⟨i,t,rfl,rfl⟩ | ⟨x,t,rfl,rfl⟩ <;> rfl
 pyHash:=fun hv h=>by
  rcases aU hv with ⟨i,t,rfl,rfl⟩ | ⟨x,t,rfl,rfl⟩
  · exact wpAny_pyHash_int h
  · exact wpAny_pyHash_str h
 eqBool:=fun hu hv h=>by
  rcases aU hu with ⟨i,t,rfl,rfl⟩ | ⟨x,t,rfl,rfl⟩
  · rcases aU hv with ⟨j,u,rfl,rfl⟩ | ⟨y,u,rfl,rfl⟩
    · rw [xX] at h; exact wpAny_eqBool_int h
    · rw [xZ] at h; exact LH i t y u _ _ _ _ h
  · rcases aU hv with ⟨j,u,rfl,rfl⟩ | ⟨y,u,rfl,rfl⟩
    · rw [x3] at h; exact LG x t j u _ _ _ _ h
    · rw [xY] at h; exact wpAny_eqBool_str h
 «strs»:=fun k x t v h=>by
  rcases aU h with ⟨i,u,rfl,e⟩ | ⟨y,u,rfl,e⟩
  · exact nomatch e
  · injection e with e1 _
    subst e1
    cases v <;> rfl
theorem kW (prog:Program) (w:w_) (i:Int) (t:Tok):(bm prog w).is (.inl i) (.int i t)=true:=oG i t
theorem kX (prog:Program) (w:w_) (x:Str) (t:Tok):(bm prog w).is (.inr x) (.str x t)=true:=oH x t
inductive V where
 | non | bl (b:Bool) | int (i:Int) | str (x:Str) | byt (b:Array UInt8) | flt (b:UInt64) | ref (a:Addr) | ty (n:String)
 deriving DecidableEq
def RelV:V→Value→Prop
 | .non,u=>u=EQ
 | .bl b,u=>u=F1 b
 | .int i,u=>∃ t,u=Lj i t
 | .str x,u=>∃ t,u=HZ x t
 | .byt b,u=>∃ t,u=Value.bytes b t
 | .flt b,u=>∃ t,u=Value.float b t
 | .ref a,u=>u=r_ a
 | .ty n,u=>u=EZ n
abbrev Vals:List V→List Value→Prop:=MQ RelV
theorem Vals.length {xs:List V} {us:List Value} (r:Vals xs us):xs.length=us.length:=JW r
theorem Vals.get:∀ {xs:List V} {us:List Value} {i:Nat} {x:V},Vals xs us→xs[i]?=some x→∃ u,us[i]?=some u∧RelV x u
 | _,_,_,_,.nil,e=>by simp at e
 | _,_,0,_,.cons r _,e=>by simp at e; subst e; exact ⟨_,rfl,r⟩
 | _,_,i + 1,x,.cons _ t,e=>by
  obtain ⟨u,h1,h2⟩:=Vals.get (i:=i) (x:=x) t (by simpa using e)
  exact ⟨u,by simpa using h1,h2⟩
theorem Vals.set {x:V} {u:Value} (r:RelV x u):∀ {xs:List V} {us:List Value} (i:Nat),Vals xs us→Vals (xs.set i x) (us.set i u)
 | _,_,_,.nil=>.nil
 | _,_,0,.cons _ t=>.cons r t
 | _,_,i + 1,.cons q t=>.cons q (Vals.set r i t)
theorem Vals.append:∀ {xs ys:List V} {us ws:List Value},Vals xs us→Vals ys ws→Vals (xs ++ ys) (us ++ ws)
 | _,_,_,_,.nil,s=>s
 | _,_,_,_,.cons r t,s=>.cons r (Vals.append t s)
theorem Vals.take:∀ {xs:List V} {us:List Value} (n:Nat),Vals xs us→Vals (xs.take n) (us.take n)
 | _,_,0,_=>.nil
 | _,_,_ + 1,.nil=>.nil
 | _,_,n + 1,.cons r t=>.cons r (Vals.take n t)
theorem Vals.drop:∀ {xs:List V} {us:List Value} (n:Nat),Vals xs us→Vals (xs.drop n) (us.drop n)
 | _,_,0,r=>r
 | _,_,_ + 1,.nil=>.nil
 | _,_,n + 1,.cons _ t=>Vals.drop n t
def RelO:Option V→Option Value→Prop
 | some v,some u=>RelV v u
 | none,none=>True
 | _,_=>False
def KV {κ:Type}:List (κ×V)→List (κ×Value)→Prop:=MQ fun (p:κ×V) (q:κ×Value)=>p.1=q.1∧RelV p.2 q.2
def kV:Key→V
 | .inl i=>.int i
 | .inr x=>.str x
inductive HO where
 | lst (xs:List V)
 | tup (xs:List V)
 | dK (kvs:List (Key×V)) | dT (kvs:List (List Key×V))
 | set (S:Int→Bool) (n:Nat)
 | ins (C dx:Addr) (fs:List (Str×V))
 | own (x:Addr)
 | xd (fs:List (Str×V))
 | met (f x:Addr)
 | rng (lo hi:Int)
 | frz (o:Obj) (u:HO)
 | tbl (ps:Array Value)
 | ext (φ:Heap→Prop)
abbrev Hp:=Addr→Option HO
def upd (H:Hp) (a:Addr) (o:HO):Hp:=fun b=>if b=a then some o else H b
theorem ai {H:Hp} {a:Addr} {o:HO}:upd H a o a=some o:=by unfold upd; rw [if_pos rfl]
theorem am {H:Hp} {a b:Addr} {o:HO} (h:b≠a):upd H a o b=H b:=by unfold upd; rw [if_neg h]
theorem vp {H:Hp} {a:Addr} {o u:HO}:upd (upd H a o) a u=upd H a u:=by
 funext b; unfold upd; split <;> rfl
theorem By {H:Hp} {a b:Addr} {o u:HO} (h:H a=some o) (h':H b=some u) (d:o≠u):a≠b:=by
 intro e; subst e; rw [h] at h'; exact d (EU h')
theorem ak {H:Hp} {a b:Addr} {o:HO} (h:H a=some o) (h':H b=none):a≠b:=by
 intro e; subst e; rw [h] at h'; cases h'
section
variable (P:Program) (w:w_)
def ObjOk (H:Hp) (h:Heap) (a:Addr):HO→Prop
 | .lst xs=>xs.length≤sizeLine∧∃ (its:List Value) (n:Nat),Vals xs its∧h.get? a=some { cls:=.type "list",data:=.seq its.toArray n }
 | .tup xs=>xs.length≤sizeLine∧∃ its:List Value,Vals xs its∧MT h a its.toArray
 | .dK kvs=>kvs.length≤sizeLine∧(a == GS)=false∧∃ vs,KV kvs vs∧h.DictOf (bm P w) a vs
 | .dT kvs=>kvs.length≤sizeLine∧(a == GS)=false∧∃ xs:List (List Key×Addr×Value),
  MQ (fun (p:List Key×V) (q:List Key×Addr×Value)=>p.1=q.1∧H q.2.1=some (.tup (p.1.map kV))∧RelV p.2 q.2.2) kvs xs ∧
  ∃ o es ep,h.get? a=some o∧o.ExactDict∧o.data=.dict es ep∧es.toList=xs.map (entryOfKey (J4 (bm P w)))∧(xs.map (·.1)).Nodup
 | .set S n=>h.SetOf (intKind P w) a S n
 | .ins C dx fs=>H dx=some (.own a)∧fs.length≤1000∧dx≠a∧h.get? a=some (GI C dx) ∧
  ∃ mA,h.Ns1 dx mA∧(∀ f,RelO (fs.lookup f) (mA f))∧PySem.Within mA (fs.map (·.1))
 | .own _=>∃ o,h.get? a=some o
 | .xd fs=>∃ mA,h.Ns1 a mA∧∀ f,RelO (fs.lookup f) (mA f)
 | .rng lo hi=>∃ t u v,h.get? a=some { cls:=.type "range",data:=.fields #[.int lo t,.int hi u,.int 1 v] }
 | .frz o u=>h.get? a=some o∧ObjOk H h a u
 | .tbl ps=>h.get? a=some { cls:=.none,data:=.fields ps }
 | .met f x=>h.get? a=some (JH (.ref f) (.ref x))
 | .ext φ=>φ h∧(∃ o,h.get? a=some o)∧∀ h1 h2:Heap,φ h1→(∀ o,h1.get? a=some o→h2.get? a=some o)→φ h2
def HOk (H:Hp) (h:Heap):Prop:=∀ a o,H a=some o→ObjOk P w H h a o
end
section
variable {P:Program} {w:w_} {H H':Hp} {h h':Heap} {a:Addr} {o:HO}
theorem ObjOk.lt (x:ObjOk P w H h a o):a < h.objs.size:=by
 cases o with
 | lst xs=>obtain ⟨_,_,_,_,e⟩:=x; exact q_ e
 | tup xs=>obtain ⟨_,_,_,p⟩:=x; exact p.lt
 | dK kvs=>obtain ⟨_,_,_,_,o,_,_,e,_⟩:=x; exact q_ e
 | dT kvs=>obtain ⟨_,_,_,_,o,_,_,e,_⟩:=x; exact q_ e
 | set S n=>obtain ⟨o,_,_,_,e,_⟩:=x; exact q_ e
 | ins C dx fs=>obtain ⟨_,_,_,e,_⟩:=x; exact q_ e
 | own y=>obtain ⟨_,e⟩:=x; exact q_ e
 | xd fs=>obtain ⟨_,⟨_,_,_,e,_⟩,_⟩:=x; exact q_ e
 | rng lo hi=>obtain ⟨_,_,_,e⟩:=x; exact q_ e
 | frz ob u=>obtain ⟨e,_⟩:=x; exact q_ e
 | tbl ps=>exact q_ (show h.get? a=some _ from x)
 | met f y=>exact q_ (show h.get? a=some _ from x)
 | ext φ=>obtain ⟨_,⟨_,e⟩,_⟩:=x; exact q_ e
theorem Paired.mapP {α β:Type} {F G:α→β→Prop}:∀ {l₁:List α} {l₂:List β},MQ F l₁ l₂→(∀ a b,F a b→G a b)→MQ G l₁ l₂
 | _,_,.nil,_=>.nil
 | _,_,.cons r t,f=>.cons (f _ _ r) (Paired.mapP t f)
theorem ObjOk.stay (x:ObjOk P w H h a o) (k:∀ b u,(b=a∨H b=some (.own a))→h.get? b=some u→h'.get? b=some u)
 (ho:∀ b,H b=some (.own a)→H' b=some (.own a)) (ht:∀ b xs,H b=some (.tup xs)→H' b=some (.tup xs)):ObjOk P w H' h' a o:=by
 induction o with
 | lst xs=>obtain ⟨z,its,n,r,e⟩:=x; exact ⟨z,its,n,r,k _ _ (.inl rfl) e⟩
 | tup xs=>obtain ⟨z,its,r,ob,e,c⟩:=x; exact ⟨z,its,r,ob,k _ _ (.inl rfl) e,c⟩
 | dK kvs=>obtain ⟨z,y,vs,r,ob,es,ep,e,c⟩:=x; exact ⟨z,y,vs,r,ob,es,ep,k _ _ (.inl rfl) e,c⟩
 | dT kvs =>
  obtain ⟨z,y,xs,r,ob,es,ep,e,c⟩:=x
  exact ⟨z,y,xs,Paired.mapP r fun p q z=>⟨z.1,ht _ _ z.2.1,z.2.2⟩,ob,es,ep,k _ _ (.inl rfl) e,c⟩
 | set S n=>obtain ⟨ob,es,ep,t,e,c⟩:=x; exact ⟨ob,es,ep,t,k _ _ (.inl rfl) e,c⟩
 | ins C dx fs =>
  obtain ⟨d,z,ne,e,mA,⟨od,es,ep,e2,c⟩,r⟩:=x
  exact ⟨ho _ d,z,ne,k _ _ (.inl rfl) e,mA,⟨od,es,ep,k _ _ (.inr d) e2,c⟩,r⟩
 | own y=>obtain ⟨ob,e⟩:=x; exact ⟨ob,k _ _ (.inl rfl) e⟩
 | xd fs=>obtain ⟨mA,⟨od,es,ep,e,c⟩,r⟩:=x; exact ⟨mA,⟨od,es,ep,k _ _ (.inl rfl) e,c⟩,r⟩
 | rng lo hi=>obtain ⟨t,u,v,e⟩:=x; exact ⟨t,u,v,k _ _ (.inl rfl) e⟩
 | frz ob u ih=>obtain ⟨e,q⟩:=x; exact ⟨k _ _ (.inl rfl) e,ih q⟩
 | tbl ps =>
  have e:h.get? a=some { cls:=.none,data:=.fields ps }:=x
  show h'.get? a=some { cls:=.none,data:=.fields ps }
  exact k a _ (.inl rfl) e
 | met f y =>
  have e:h.get? a=some (JH (.ref f) (.ref y)):=x
  show h'.get? a=some (JH (.ref f) (.ref y))
  exact k a _ (.inl rfl) e
 | ext φ=>obtain ⟨p,⟨o,e⟩,st⟩:=x; exact ⟨st _ _ p fun o q=>k _ _ (.inl rfl) q,⟨o,k _ _ (.inl rfl) e⟩,st⟩
theorem HOk.lt (x:HOk P w H h) (e:H a=some o):a < h.objs.size:=(x a o e).lt
theorem HOk.fresh (x:HOk P w H h) (e:h.objs.size≤a):H a=none:=by
 cases q:H a with
 | none=>rfl
 | some u=>exact absurd (Ez (x.lt q) e) (FH _)
theorem HOk.kept (x:HOk P w H h) (k:∀ b u,h.get? b=some u→h'.get? b=some u):HOk P w H h':=fun a o e =>
 (x a o e).stay (fun b u _ q=>k b u q) (fun _ q=>q) fun _ _ q=>q
theorem HOk.laid (x:HOk P w H h) (k:∀ b u,h.get? b=some u→h'.get? b=some u) (hp:h.objs.size≤a) (new:ObjOk P w (upd H a o) h' a o):HOk P w (upd H a o) h':=fun b u e=>by
 have hn:=x.fresh hp
 by_cases hb:b=a
 · subst hb; rw [ai] at e; cases e; exact new
 · rw [am hb] at e
   exact (x b u e).stay (fun c v _ q=>k c v q) (fun c q=>by rw [am (ak q hn)]; exact q) fun c xs q=>by rw [am (ak q hn)]; exact q
end
def Rd (H:Hp) (a:Addr) (u:HO):Prop:=H a=some u∨∃ o,H a=some (.frz o u)
theorem Rd.of {H:Hp} {a:Addr} {u:HO} (h:H a=some u):Rd H a u:=.inl h
theorem Rd.ok {P:Program} {w:w_} {H:Hp} {h:Heap} {a:Addr} {u:HO} (r:Rd H a u) (x:HOk P w H h):ObjOk P w H h a u:=by
 rcases r with r | ⟨o,r⟩
 · exact x a u r
 · obtain ⟨_,q⟩:=x a _ r
   exact q
def Mut:Option HO→Prop
 | some (.lst _)=>True
 | some (.dK _)=>True
 | some (.dT _)=>True
 | some (.set _ _)=>True
 | some (.ins _ _ _)=>True
 | some (.ext _)=>True
 | _=>False
section
variable {P:Program} {w:w_} {H:Hp} {h h':Heap} {x e:Addr} {o':HO}
theorem HOk.write (ok:HOk P w H h) (mu:Mut (H x)) (he:e=x∨H e=some (.own x)) (k:∀ b u,b≠e→h.get? b=some u→h'.get? b=some u) (heo:∃ u,h'.get? e=some u)
 (new:ObjOk P w (upd H x o') h' x o'):HOk P w (upd H x o') h':=fun b u q=>by
 have nown:∀ c y,H c=some (.own y)→c≠x:=fun c y r z=>by subst z; rw [r] at mu; exact mu
 have ntup:∀ c xs,H c=some (.tup xs)→c≠x:=fun c xs r z=>by subst z; rw [r] at mu; exact mu
 by_cases hb:b=x
 · subst hb; rw [ai] at q; cases q; exact new
 · rw [am hb] at q
   by_cases hbe:b=e
   · have q':H b=some (.own x):=by
      rcases he with z | z
      · exact absurd (hbe.trans z) hb
      · rw [hbe]; exact z
     rw [q] at q'; cases q'
     obtain ⟨v,hv⟩:=heo
     exact ⟨v,by rw [hbe]; exact hv⟩
   · refine (ok b u q).stay (fun c v hc r=>k c v ?_ r) (fun c r=>by rw [am (nown c b r)]; exact r) fun c xs r=>by rw [am (ntup c xs r)]; exact r
     rcases hc with rfl | hc
     · exact hbe
     · rintro rfl
       rcases he with z | z
       · exact nown c b hc z
       · rw [hc] at z; cases z; exact hb rfl
end
structure Un (fs ex:List Addr) (H H':Hp) (h h':Heap):Prop where
 keep:∀ b o,h.get? b=some o→H b=none→b ∉ fs→b ∉ ex→h'.get? b=some o
 slot:∀ b o,h.get? b=some o→H b=none→b∈fs→b ∉ ex→∃ sl,h'.get? b=some { o with slots:=sl }
 free:∀ b o,h.get? b=some o→H b=none→b ∉ ex→H' b=none
 there:∀ b o,h.get? b=some o→b ∉ ex→∃ o',h'.get? b=some o'
 tups:∀ b xs,H b=some (.tup xs)→H' b=some (.tup xs)
 frzs:∀ b o u,H b=some (.frz o u)→H' b=some (.frz o u)
 tbls:∀ b ps,H b=some (.tbl ps)→∃ more,H' b=some (.tbl (ps ++ more))
section
variable {fs fs' ex ex':List Addr} {H H1 H2:Hp} {h h1 h2 h':Heap} {a x e:Addr} {o:HO}
theorem Un.any (u:Un fs ex H H1 h h1) {b:Addr} {ob:Obj} (q:h.get? b=some ob) (n:H b=none) (hx:b ∉ ex):∃ sl,h1.get? b=some { ob with slots:=sl }:=by
 by_cases hb:b∈fs
 · exact u.slot b ob q n hb hx
 · exact ⟨ob.slots,u.keep b ob q n hb hx⟩
theorem Un.trans (a:Un fs ex H H1 h h1) (b:Un fs ex H1 H2 h1 h2):Un fs ex H H2 h h2 where
 keep:=fun c ob q n hc hx=>b.keep c ob (a.keep c ob q n hc hx) (a.free c ob q n hx) hc hx
 slot:=fun c ob q n hc hx=>by
  obtain ⟨sl,e1⟩:=a.slot c ob q n hc hx
  obtain ⟨sl',e2⟩:=b.slot c _ e1 (a.free c ob q n hx) hc hx
  exact ⟨sl',e2⟩
 free:=fun c ob q n hx=>by
  obtain ⟨o',e1⟩:=a.there c ob q hx
  exact b.free c o' e1 (a.free c ob q n hx) hx
 there:=fun c ob q hx=>by
  obtain ⟨o',e1⟩:=a.there c ob q hx
  exact b.there c o' e1 hx
 tups:=fun c xs q=>b.tups c xs (a.tups c xs q)
 frzs:=fun c ob xs q=>b.frzs c ob xs (a.frzs c ob xs q)
 tbls:=fun c ps q=>by
  obtain ⟨m1,e1⟩:=a.tbls c ps q
  obtain ⟨m2,e2⟩:=b.tbls c _ e1
  exact ⟨m1 ++ m2,by rw [e2,LQ]⟩
theorem Un.kept (k:∀ b u,h.get? b=some u→h'.get? b=some u):Un fs ex H H h h' :=
 ⟨fun b ob q _ _ _=>k b ob q,fun b ob q _ _ _=>⟨ob.slots,k b ob q⟩,fun _ _ _ n _=>n,fun b ob q _=>⟨ob,k b ob q⟩,fun _ _ q=>q,fun _ _ _ q=>q,fun _ ps q=>⟨#[],by rw [q]; simp⟩⟩
theorem Un.refl:Un fs ex H H h h:=Un.kept fun _ _ q=>q
theorem Un.laid (k:∀ b u,h.get? b=some u→h'.get? b=some u) (hp:h.objs.size≤a) (hn:H a=none):Un fs ex H (upd H a o) h h' where
 keep:=fun b u q _ _ _=>k b u q
 slot:=fun b u q _ _ _=>⟨u.slots,k b u q⟩
 free:=fun b u q n _=>by rw [am (z_ (Ez (q_ q) hp))]; exact n
 there:=fun b u q _=>⟨u,k b u q⟩
 tups:=fun b xs q=>by rw [am (ak q hn)]; exact q
 frzs:=fun b u xs q=>by rw [am (ak q hn)]; exact q
 tbls:=fun b ps q=>⟨#[],by rw [am (ak q hn),q]; simp⟩
theorem Un.write (mu:Mut (H x)) (he:e=x∨H e=some (.own x)) (k:∀ b u,b≠e→h.get? b=some u→h'.get? b=some u) (heo:∃ u,h'.get? e=some u):Un fs ex H (upd H x o) h h':=by
 have hx:∀ b,H b=none→b≠x:=fun b n z=>by subst z; rw [n] at mu; exact mu
 have hb:∀ b,H b=none→b≠e:=fun b n z=>by
  subst z
  rcases he with r | r
  · exact hx b n r
  · rw [n] at r; cases r
 have hm:∀ b u,H b=some u→¬ Mut (some u)→b≠x:=fun b u q nm z=>by subst z; rw [q] at mu; exact nm mu
 refine ⟨fun b u q n _ _=>k b u (hb b n) q,fun b u q n _ _=>⟨u.slots,k b u (hb b n) q⟩,fun b u q n _=>by rw [am (hx b n)]; exact n,fun b u q _=>?_,
  fun b xs q=>by rw [am (hm b _ q fun z=>z)]; exact q,fun b u xs q=>by rw [am (hm b _ q fun z=>z)]; exact q,fun b ps q=>⟨#[],by rw [am (hm b _ q fun z=>z),q]; simp⟩⟩
 by_cases hbe:b=e
 · subst hbe; exact heo
 · exact ⟨u,k b u hbe q⟩
theorem Un.mono (u:Un fs ex H H1 h h1) (hs:∀ b∈fs,b∈fs') (hx:∀ b∈ex,b∈ex'):Un fs' ex' H H1 h h1 :=
 ⟨fun b ob q n hb he=>u.keep b ob q n (fun z=>hb (hs b z)) fun z=>he (hx b z),fun _ _ q n _ he=>u.any q n fun z=>he (hx _ z),fun b ob q n he=>u.free b ob q n fun z=>he (hx b z),fun b ob q he=>u.there b ob q fun z=>he (hx b z),u.tups,u.frzs,u.tbls⟩
end
def trk (h:Heap) (H:Hp):List Addr:=(g_ h.objs.size).filter fun a=>(H a).isSome
def rT (h:Heap) (H:Hp):Heap:=PySem.W.hideAll h (trk h H)
theorem oI (h:Heap) (H:Hp):(rT h H).objs.size=h.objs.size:=PySem.W.hideAll_size _ _
theorem rV {h:Heap} {H:Hp} {b:Addr} {o:Obj} (e:h.get? b=some o) (n:H b=none):(rT h H).get? b=some o :=
 PySem.W.hideAll_get _ e fun hm=>by
  have q:(H b).isSome=true:=(D_.mp hm).2
  rw [n] at q; simp at q
theorem vq {h:Heap} {H:Hp} {b:Addr} {o:Obj} (e:(rT h H).get? b=some o):h.get? b=some o∧H b=none:=by
 have e':h.get? b=some o:=PySem.W.of_hideAll (trk h H) e
 refine ⟨e',?_⟩
 cases q:H b with
 | none=>rfl
 | some x =>
  have hm:b∈trk h H:=D_.mpr ⟨EH.mpr (q_ e'),by simp [q]⟩
  have z:(rT h H).get? b=none:=PySem.W.hideAll_none (trk h H) hm
  rw [z] at e; cases e
def vt (g h:Heap) (L:Addr):List (Addr×Obj):=(g_ h.objs.size).filterMap fun a=>if a=L∨(g.get? a).isSome=true then none else (h.get? a).map fun o=>(a,o)
def rest (g h:Heap) (L d:Addr):List (Addr×Obj):=(vt g h L).filter fun p=>decide (p.1≠d)
structure Mod (K:ck) (mg:Str→Option Value) (base:Heap):Prop where
 kin:K.In base
 glob:base.Ns EA mg
 blt:∃ mb,base.Ns LF mb∧∀ x:Str,x≠"__name__"→mb x=F9 x
 nolimit:base.NoLimit
structure Cx where
 prog:Program
 w:w_
 K:ck
 mg:Str→Option Value
 base:Heap
 A:u_
 N:List Str
 s₀:c_
 H₀:Hp
 env:Env
 outer:List Env
 stack:List Env
 ex:List Addr
 fn:Str→Bool
 calm:Bool
 pn:List (Addr×Obj)
 xe:Value→c_→Prop
def frs (l:List Env):List Addr:=l.filterMap (·.frame)
abbrev Cx.fs (X:Cx):List Addr:=frs X.outer
def Vis (sc:Scope) (x:Str):Prop:=sc.names.lookup x=some .local∨sc.names.lookup x=some .cell∨sc.names.lookup x=some .free
def Loc (sc:Scope) (x:Str):Prop:=sc.names.lookup x=some .local∨sc.names.lookup x=some .cell
def DO (env:Env) (h:Heap) (m:Str→Option Value) (x:Str) (u:Value):Prop :=
 (env.kindOf x=some .local∧m x=some u)∨((env.kindOf x=some .cell∨env.kindOf x=some .free)∧∃ c,env.cells.lookup x=some c∧h.IsCell c (some u))
structure Cx.Ok (X:Cx):Prop where
 mod:Mod X.K X.mg X.base
 kind:X.env.scope.kind=.function
 glob:X.env.globals=EA
 blt:X.env.builtins=LF
 above:X.s₀.heap.objs.size≤X.env.locals
 inj:∀ x y c,X.env.cells.lookup x=some c→X.env.cells.lookup y=some c→x=y
 has:∀ x,(X.env.kindOf x=some .cell∨X.env.kindOf x=some .free)→∃ c,X.env.cells.lookup x=some c
 cab:∀ x c,X.fn x=true→X.env.cells.lookup x=some c→X.s₀.heap.objs.size≤c
 hd:X.calm=true→X.A.handled=none
 frames:X.A.frames=some X.stack
 stk:X.stack=X.outer∨(X.stack=X.env :: X.outer∧X.env.frame=some X.env.locals)
 exf:∀ b∈X.ex,b≠X.env.locals∧∀ x c,X.env.cells.lookup x=some c→c≠b
 bs:∀ b o,X.base.get? b=some o→X.s₀.heap.get? b=some o∧X.H₀ b=none
 bsz:X.base.objs.size≤X.s₀.heap.objs.size
 noex:∀ b o,X.base.get? b=some o→b ∉ X.ex
 exfs:∀ b∈X.ex,b ∉ X.fs
 funs:X.s₀.heap.FunFrames X.base X.outer
 frf:∀ b∈X.fs,X.H₀ b=none
structure Inv (X:Cx) (pins:List (Addr×Obj)) (σ:List (Option V)) (H:Hp) (s:c_):Prop where
 ok:X.Ok
 os:s.os=X.s₀.os
 bare:Jf s.gens
 base:Un X.fs X.ex X.H₀ H X.s₀.heap s.heap
 loc:∃ m,s.heap.Ns X.env.locals m∧∀ (i:Nat) (x:Str) (v:V),X.N[i]?=some x→σ[i]?=some (some v)→Vis X.env.scope x→∃ u,RelV v u∧DO X.env s.heap m x u
 cell:∀ x c,X.env.cells.lookup x=some c→∃ v,s.heap.IsCell c v
 free:H X.env.locals=none
 freeC:∀ x c,X.env.cells.lookup x=some c→H c=none
 pin:∀ p∈X.pn ++ pins,s.heap.get? p.1=some p.2∧H p.1=none∧p.1≠X.env.locals∧p.1 ∉ X.fs∧∀ v,p.2.data≠.cell v
 hok:HOk X.prog X.w H s.heap
 len:σ.length=X.N.length
section
variable {X:Cx} {pins:List (Addr×Obj)} {σ:List (Option V)} {H H':Hp} {s:c_} {h':Heap}
theorem Cx.Ok.nofr (ok:X.Ok) {b:Addr} {o:Obj} (e:X.base.get? b=some o):b ∉ X.fs:=fun hb=>by
 have:=(ok.funs.mem hb).1
 rw [e] at this; cases this
theorem Inv.bs (I:Inv X pins σ H s):∀ b o,X.base.get? b=some o→s.heap.get? b=some o∧H b=none:=fun b o e =>
 ⟨I.base.keep b o (I.ok.bs b o e).1 (I.ok.bs b o e).2 (I.ok.nofr e) (I.ok.noex b o e),I.base.free b o (I.ok.bs b o e).1 (I.ok.bs b o e).2 (I.ok.noex b o e)⟩
theorem Inv.bk (I:Inv X pins σ H s):∀ b o,X.base.get? b=some o→s.heap.get? b=some o:=fun b o e=>(I.bs b o e).1
theorem Inv.mod (I:Inv X pins σ H s):Mod X.K X.mg X.base:=I.ok.mod
theorem Inv.kIn (I:Inv X pins σ H s):X.K.In s.heap:=I.ok.mod.kin.keeps I.bk
theorem Inv.nolimit (I:Inv X pins σ H s):s.heap.NoLimit:=I.ok.mod.nolimit.keeps I.bk
theorem Inv.fr (I:Inv X pins σ H s):∃ m,Fr X.base X.env.locals s.heap m :=
 let ⟨m,hn,_⟩:=I.loc
 ⟨m,hn,I.bk,EM I.ok.bsz I.ok.above⟩
theorem Inv.lt (I:Inv X pins σ H s):X.env.locals < s.heap.objs.size:=let ⟨_,hn,_⟩:=I.loc; hn.lt
theorem Inv.sz (I:Inv X pins σ H s):X.s₀.heap.objs.size≤s.heap.objs.size:=EM I.ok.above (Iu I.lt)
theorem Inv.nofs (I:Inv X pins σ H s) {a:Addr} (h:s.heap.objs.size≤a):a ∉ X.fs:=fun hb=>by
 obtain ⟨_,o,ho,_⟩:=I.ok.funs.mem hb
 exact absurd (Ez (q_ ho) (EM I.sz h)) (FH _)
theorem Inv.cne (I:Inv X pins σ H s):∀ x c,X.env.cells.lookup x=some c→c≠X.env.locals:=fun x c e z=>by
 obtain ⟨v,o,ho,hd⟩:=I.cell x c e
 obtain ⟨m,⟨o',es,ep,ho',hd',_⟩,_⟩:=I.loc
 rw [z,ho'] at ho; cases ho; rw [hd'] at hd; cases hd
theorem Inv.funs (I:Inv X pins σ H s):s.heap.FunFrames X.base X.outer:=by
 have all:∀ (l:List Env),(∀ b∈frs l,b∈X.fs)→X.s₀.heap.FunFrames X.base l→s.heap.FunFrames X.base l:=by
  intro l
  induction l with
  | nil=>intro _ _; trivial
  | cons env r ih =>
   intro hs hl
   obtain ⟨hk,⟨L,o,hf,hn,ho,hd⟩,hr⟩:=hl
   have hL:L∈X.fs:=hs L (by unfold frs; rw [GZ,hf]; exact h_)
   obtain ⟨sl,e⟩:=I.base.slot L o ho (I.ok.frf L hL) hL fun z=>I.ok.exfs L z hL
   exact ⟨hk,⟨L,_,hf,hn,e,hd⟩,ih (fun b hb=>hs b (by unfold frs; rw [GZ,hf]; exact k_ _ hb)) hr⟩
 exact all X.outer (fun _ hb=>hb) I.ok.funs
theorem Inv.stack (I:Inv X pins σ H s):s.heap.FunFrames X.base X.stack:=by
 rcases I.ok.stk with e | ⟨e,hf⟩
 · rw [e]; exact I.funs
 · rw [e]
   obtain ⟨m,hn,_⟩:=I.loc
   refine .cons (by rw [I.ok.kind]; decide) hf hn ?_ I.funs
   exact IS (EM I.ok.bsz I.ok.above)
theorem Inv.stkSub (I:Inv X pins σ H s):∀ b∈frs X.stack,b∈X.env.locals :: X.fs:=fun b hb=>by
 rcases I.ok.stk with e | ⟨e,hf⟩
 · rw [e] at hb; exact k_ _ hb
 · rw [e] at hb
   unfold frs at hb
   rw [GZ,hf] at hb
   exact hb
theorem Inv.stkFree (I:Inv X pins σ H s):∀ b∈frs X.stack,H b=none:=fun b hb=>by
 rcases pi.mp (I.stkSub b hb) with e | hb
 · rw [e]; exact I.free
 · obtain ⟨_,o,ho,_⟩:=I.ok.funs.mem hb
   exact I.base.free b o ho (I.ok.frf b hb) fun z=>I.ok.exfs b z hb
theorem Inv.step {g':Array Jt} {t':Nat} {d':Drawn} {ch:List Addr} (I:Inv X pins σ H s)
 (hch:∀ b∈ch,(b∈X.ex∨X.s₀.heap.objs.size≤b)∧b≠X.env.locals∧(∀ x c,X.env.cells.lookup x=some c→c≠b)∧∀ p∈X.pn ++ pins,p.1≠b)
 (keep:∀ b o,b≠X.env.locals→b ∉ X.fs→b ∉ ch→s.heap.get? b=some o→H b=none→h'.get? b=some o)
 (slot:∀ b o,b≠X.env.locals→b∈X.fs→b ∉ ch→s.heap.get? b=some o→H b=none→∃ sl,h'.get? b=some { o with slots:=sl }) (free:∀ b o,b ∉ ch→s.heap.get? b=some o→H b=none→H' b=none)
 (there:∀ b o,b ∉ ch→s.heap.get? b=some o→∃ o',h'.get? b=some o')
 (tups:∀ b xs,H b=some (.tup xs)→H' b=some (.tup xs)) (frzs:∀ b o u,H b=some (.frz o u)→H' b=some (.frz o u)) (tbls:∀ b ps,H b=some (.tbl ps)→∃ more,H' b=some (.tbl (ps ++ more)))
 (ns:∀ m,s.heap.Ns X.env.locals m→h'.Ns X.env.locals m) (hok:HOk X.prog X.w H' h') (hg:Jf g') :
 Inv X pins σ H' { s with heap:=h',gens:=g',drawn:=d',toks:=t' }:=by
 have neL:∀ b o,X.s₀.heap.get? b=some o→b≠X.env.locals:=fun b o e=>z_ (Ez (q_ e) I.ok.above)
 have neC:∀ b o,X.s₀.heap.get? b=some o→b ∉ X.ex→b ∉ ch:=fun b o e hx hb=>by
  rcases (hch b hb).1 with z | z
  · exact hx z
  · exact absurd (Ez (q_ e) z) (FH _)
 have cellK:∀ x c,X.env.cells.lookup x=some c→∀ v,s.heap.IsCell c v→h'.IsCell c v:=fun x c e v ⟨o,ho,hd⟩=>by
  have nch:c ∉ ch:=fun z=>(hch c z).2.2.1 x c e rfl
  by_cases hc:c∈X.fs
  · obtain ⟨sl,q⟩:=slot c o (I.cne x c e) hc nch ho (I.freeC x c e)
    exact ⟨_,q,hd⟩
  · exact ⟨o,keep c o (I.cne x c e) hc nch ho (I.freeC x c e),hd⟩
 refine ⟨I.ok,I.os,hg,⟨fun b o e n hb hx=>?_,fun b o e n hb hx=>?_,fun b o e n hx=>?_,fun b o e hx=>?_,fun b xs e=>tups b xs (I.base.tups b xs e),fun b o xs e=>frzs b o xs (I.base.frzs b o xs e),fun b ps e=>?_⟩,?_,fun x c e=>?_,?_,fun x c e=>?_,fun p hp=>?_,hok,I.len⟩
 · exact keep b o (neL b o e) hb (neC b o e hx) (I.base.keep b o e n hb hx) (I.base.free b o e n hx)
 · obtain ⟨sl,e1⟩:=I.base.slot b o e n hb hx
   obtain ⟨sl',e2⟩:=slot b _ (neL b o e) hb (neC b o e hx) e1 (I.base.free b o e n hx)
   exact ⟨sl',e2⟩
 · obtain ⟨o',e1⟩:=I.base.there b o e hx
   exact free b o' (neC b o e hx) e1 (I.base.free b o e n hx)
 · obtain ⟨o',e1⟩:=I.base.there b o e hx
   exact there b o' (neC b o e hx) e1
 · obtain ⟨m1,e1⟩:=I.base.tbls b ps e
   obtain ⟨m2,e2⟩:=tbls b _ e1
   exact ⟨m1 ++ m2,by rw [e2,LQ]⟩
 · obtain ⟨m,hn,hl⟩:=I.loc
   refine ⟨m,ns m hn,fun i x v e1 e2 e3=>?_⟩
   obtain ⟨u,r,l⟩:=hl i x v e1 e2 e3
   refine ⟨u,r,?_⟩
   rcases l with l | ⟨k,c,e,z⟩
   · exact .inl l
   · exact .inr ⟨k,c,e,cellK x c e _ z⟩
 · obtain ⟨v,z⟩:=I.cell x c e
   exact ⟨v,cellK x c e v z⟩
 · obtain ⟨m,⟨o,_,_,ho,_⟩,_⟩:=I.loc
   exact free _ o (fun z=>(hch _ z).2.1 rfl) ho I.free
 · obtain ⟨v,o,ho,hd⟩:=I.cell x c e
   exact free c o (fun z=>(hch c z).2.2.1 x c e rfl) ho (I.freeC x c e)
 · obtain ⟨e,n,ne,nf,d⟩:=I.pin p hp
   have nch:p.1 ∉ ch:=fun z=>(hch p.1 z).2.2.2 p hp rfl
   exact ⟨keep p.1 p.2 ne nf nch e n,free p.1 p.2 nch e n,ne,nf,d⟩
theorem Inv.un {t':Nat} (I:Inv X pins σ H s) (u:Un X.fs [] H H' s.heap h') (hok:HOk X.prog X.w H' h'):Inv X pins σ H' { s with heap:=h',toks:=t' }:=by
 obtain ⟨m,⟨o,es,ep,ho,r⟩,_⟩:=id I.loc
 obtain ⟨sl,hL⟩:=u.any ho I.free (by simp)
 exact I.step (g':=s.gens) (d':=s.drawn) (ch:=[]) (fun _ z=>nomatch z) (fun b o _ hb _ e n=>u.keep b o e n hb (by simp)) (fun b o _ hb _ e n=>u.slot b o e n hb (by simp)) (fun b o _ e n=>u.free b o e n (by simp)) (fun b o _ e=>u.there b o e (by simp)) u.tups u.frzs u.tbls (fun m' hm=>by
  obtain ⟨o',es',ep',ho',r'⟩:=hm
  rw [ho] at ho'; cases ho'
  exact ⟨_,es',ep',hL,r'⟩) hok I.bare
theorem Inv.call {g':Array Jt} {t':Nat} {d':Drawn} {ch:List Addr} (I:Inv X pins σ H s) (u:Un (frs X.stack) ch H H' s.heap h') (hok:HOk X.prog X.w H' h') (hg:Jf g')
 (hch:∀ b∈ch,(b∈X.ex∨X.s₀.heap.objs.size≤b)∧b≠X.env.locals∧(∀ x c,X.env.cells.lookup x=some c→c≠b)∧∀ p∈X.pn ++ pins,p.1≠b) :
 Inv X pins σ H' { s with heap:=h',gens:=g',drawn:=d',toks:=t' }:=by
 obtain ⟨m,⟨o,es,ep,ho,r⟩,_⟩:=id I.loc
 obtain ⟨sl,hL⟩:=u.any ho I.free fun z=>(hch _ z).2.1 rfl
 exact I.step (ch:=ch) hch (fun b o hL hb hc e n=>u.keep b o e n (fun z=>(pi.mp (I.stkSub b z)).elim hL hb) hc) (fun b o _ _ hc e n=>u.any e n hc) (fun b o hc e n=>u.free b o e n hc) (fun b o hc e=>u.there b o e hc) u.tups u.frzs u.tbls (fun m' hm=>by
  obtain ⟨o',es',ep',ho',r'⟩:=hm
  rw [ho] at ho'; cases ho'
  exact ⟨_,es',ep',hL,r'⟩) hok hg
theorem Inv.turned {t':Nat} {it:Addr} (I:Inv X pins σ H s) (k:∀ b o,b≠it→s.heap.get? b=some o→h'.get? b=some o) (hn:H it=none) (hL:it≠X.env.locals)
 (h1:it∈X.ex∨X.s₀.heap.objs.size≤it) (h2:∀ x c,X.env.cells.lookup x=some c→c≠it) (h3:∀ p∈X.pn ++ pins,p.1≠it):Inv X pins σ H { s with heap:=h',toks:=t' }:=by
 have nit:∀ b u,H b=some u→b≠it:=fun b u e z=>by rw [z,hn] at e; cases e
 refine I.step (g':=s.gens) (d':=s.drawn) (ch:=[it]) (fun b hb=>?_) (fun b o _ _ hc e _=>k b o (fun z=>hc (by simp [z])) e) (fun b o _ _ hc e _=>⟨o.slots,k b o (fun z=>hc (by simp [z])) e⟩) (fun _ _ _ _ n=>n)
  (fun b o hc e=>⟨o,k b o (fun z=>hc (by simp [z])) e⟩) (fun _ _ e=>e) (fun _ _ _ e=>e) (fun b ps e=>⟨#[],by rw [e]; simp⟩) (fun m hm=>?_) (fun b u e=>?_) I.bare
 · have e:b=it:=by simpa using hb
   subst e
   exact ⟨h1,hL,h2,h3⟩
 · obtain ⟨o,es,ep,ho,r⟩:=hm
   exact ⟨o,es,ep,k _ o (GE hL) ho,r⟩
 · refine (I.hok b u e).stay (fun c v hc q=>k c v ?_ q) (fun _ q=>q) fun _ _ q=>q
   rcases hc with z | z
   · rw [z]; exact nit b u e
   · exact nit c _ z
theorem Inv.tok (I:Inv X pins σ H s) (t:Nat):Inv X pins σ H { s with toks:=t }:=I.un (h':=s.heap) (t':=t) Un.refl I.hok
theorem Inv.kept {t':Nat} (I:Inv X pins σ H s) (k:∀ b u,s.heap.get? b=some u→h'.get? b=some u):Inv X pins σ H { s with heap:=h',toks:=t' }:=I.un (Un.kept k) (I.hok.kept k)
theorem Inv.laid {a:Addr} {o:HO} {t':Nat} (I:Inv X pins σ H s) (k:∀ b u,s.heap.get? b=some u→h'.get? b=some u) (hp:s.heap.objs.size≤a) (new:ObjOk X.prog X.w (upd H a o) h' a o) :
 Inv X pins σ (upd H a o) { s with heap:=h',toks:=t' }:=I.un (Un.laid k hp (I.hok.fresh hp)) (I.hok.laid k hp new)
theorem Inv.write {x e:Addr} {o:HO} {t':Nat} (I:Inv X pins σ H s) (mu:Mut (H x)) (he:e=x∨H e=some (.own x)) (k:∀ b u,b≠e→s.heap.get? b=some u→h'.get? b=some u) (heo:∃ u,h'.get? e=some u)
 (new:ObjOk X.prog X.w (upd H x o) h' x o):Inv X pins σ (upd H x o) { s with heap:=h',toks:=t' }:=I.un (Un.write mu he k heo) (I.hok.write mu he k heo new)
theorem Inv.pins_of {pins':List (Addr×Obj)} (I:Inv X pins σ H s) (h:∀ p∈pins',s.heap.get? p.1=some p.2∧H p.1=none∧p.1≠X.env.locals∧p.1 ∉ X.fs∧∀ v,p.2.data≠.cell v):Inv X pins' σ H s :=
 ⟨I.ok,I.os,I.bare,I.base,I.loc,I.cell,I.free,I.freeC,fun p hp=>(A_.mp hp).elim (fun z=>I.pin p (E7 _ z)) (h p),I.hok,I.len⟩
theorem mj {N:List Str} (hN:N.Nodup) {i j:Nat} {x:Str} (a:N[i]?=some x) (b:N[j]?=some x):i=j:=by
 obtain ⟨h1,e1⟩:=B_.mp a
 obtain ⟨h2,e2⟩:=B_.mp b
 exact (List.getElem_inj hN).mp (e1.trans e2.symm)
theorem oJ {M:LA} {A:u_} {E:Value→c_→Prop} {i:Nat} {x:Str} {v:V} {u:Value} {Q:Unit→c_→Prop} (I:Inv X pins σ H s) (hN:X.N.Nodup) (hi:X.N[i]?=some x) (hx:Loc X.env.scope x) (r:RelV v u)
 (h:∀ s',Inv X pins (σ.set i (some v)) H s'→(∃ a,FJ a s.heap s'.heap∧(a=X.env.locals∨X.env.cells.lookup x=some a))→Q () s') (hf:X.fn x=true∨X.env.scope.names.lookup x=some .local:=by first | exact .inl rfl | exact .inr rfl | assumption):l_ M A (storeName X.env x u) Q E s:=by
 obtain ⟨m,hn,hl⟩:=id I.loc
 have hcls:(X.env.scope.kind == .class || (X.env.scope.kind == .module && X.env.locals != X.env.globals))=false:=by rw [I.ok.kind]; rfl
 have hiσ:i < σ.length:=by rw [I.len]; exact (B_.mp hi).1
 have cne:=I.cne
 have tracked:∀ {a:Addr} {h':Heap},(∃ o,s.heap.get? a=some o∧H a=none)→FJ a s.heap h'→HOk X.prog X.w H h':=fun {a h'} ha hs b ob e=>by
  obtain ⟨_,_,hfree⟩:=ha
  refine (I.hok b ob e).stay (fun c w' hc q=>(hs.2 c ?_).trans q) (fun _ q=>q) fun _ _ q=>q
  rintro rfl
  rcases hc with rfl | hc
  · rw [hfree] at e; cases e
  · rw [hfree] at hc; cases hc
 rcases hx with hk | hk
 · refine wpAny_storeName_local hk hn (fun h' hn' hs=>?_) hcls
   obtain ⟨oL,_,_,hoL,_⟩:=id hn
   refine h _ ⟨I.ok,I.os,I.bare,⟨fun b o e n hb hx=>?_,fun b o e n hb hx=>?_,I.base.free,fun b o e hx=>?_,I.base.tups,I.base.frzs,I.base.tbls⟩,⟨_,hn',fun j y v' e1 e2 e3=>?_⟩,fun y c e=>?_,I.free,I.freeC,fun p hp=>?_,tracked ⟨oL,hoL,I.free⟩ hs,by simpa using I.len⟩ ⟨_,hs,.inl rfl⟩
   · exact (hs.2 b (z_ (Ez (q_ e) I.ok.above))).trans (I.base.keep b o e n hb hx)
   · obtain ⟨sl,e1⟩:=I.base.slot b o e n hb hx
     exact ⟨sl,(hs.2 b (z_ (Ez (q_ e) I.ok.above))).trans e1⟩
   · obtain ⟨o',e1⟩:=I.base.there b o e hx
     exact ⟨o',(hs.2 b (z_ (Ez (q_ e) I.ok.above))).trans e1⟩
   · by_cases hj:j=i
     · subst hj
       rw [hi] at e1; cases e1
       rw [ED hiσ] at e2
       cases e2
       exact ⟨u,r,.inl ⟨hk,by simp⟩⟩
     · rw [v_ (GE hj)] at e2
       obtain ⟨u',r',q⟩:=hl j y v' e1 e2 e3
       refine ⟨u',r',?_⟩
       rcases q with ⟨k,e⟩ | ⟨k,c,e,z⟩
       · refine .inl ⟨k,?_⟩
         have:y≠x:=fun e=>hj (mj hN e1 (e ▸ hi))
         simp [this,e]
       · exact .inr ⟨k,c,e,z.sameBut hs (cne y c e)⟩
   · obtain ⟨w',z⟩:=I.cell y c e
     exact ⟨w',z.sameBut hs (cne y c e)⟩
   · obtain ⟨e,n,ne,nf,d⟩:=I.pin p hp
     exact ⟨(hs.2 p.1 ne).trans e,n,ne,nf,d⟩
 · have hfn:X.fn x=true:=by
    rcases hf with z | z
    · exact z
    · rw [z] at hk; cases hk
   obtain ⟨c,hc⟩:=I.ok.has x (.inl hk)
   obtain ⟨w',z⟩:=I.cell x c hc
   refine wpAny_storeName_cell I.ok.kind hk hc z (fun h' hc' hs=>?_)
   obtain ⟨oc,hoc,hocd⟩:=id z
   refine h { s with heap:=h' } ⟨I.ok,I.os,I.bare,⟨fun b o e n hb hx=>?_,fun b o e n hb hx=>?_,I.base.free,fun b o e hx=>?_,I.base.tups,I.base.frzs,I.base.tbls⟩,⟨m,hn.sameBut hs (GE (cne x c hc)),fun j y v' e1 e2 e3=>?_⟩,fun y c' e=>?_,I.free,I.freeC,fun p hp=>?_,tracked ⟨oc,hoc,I.freeC x c hc⟩ hs,by simpa using I.len⟩ ⟨c,hs,.inr hc⟩
   · exact (hs.2 b (z_ (Ez (q_ e) (I.ok.cab x c hfn hc)))).trans (I.base.keep b o e n hb hx)
   · obtain ⟨sl,e1⟩:=I.base.slot b o e n hb hx
     exact ⟨sl,(hs.2 b (z_ (Ez (q_ e) (I.ok.cab x c hfn hc)))).trans e1⟩
   · obtain ⟨o',e1⟩:=I.base.there b o e hx
     exact ⟨o',(hs.2 b (z_ (Ez (q_ e) (I.ok.cab x c hfn hc)))).trans e1⟩
   · by_cases hj:j=i
     · subst hj
       rw [hi] at e1; cases e1
       rw [ED hiσ] at e2
       cases e2
       exact ⟨u,r,.inr ⟨.inl hk,c,hc,hc'⟩⟩
     · rw [v_ (GE hj)] at e2
       obtain ⟨u',r',q⟩:=hl j y v' e1 e2 e3
       refine ⟨u',r',?_⟩
       rcases q with q | ⟨k,c',e,z'⟩
       · exact .inl q
       · refine .inr ⟨k,c',e,z'.sameBut hs ?_⟩
         rintro rfl
         exact hj (mj hN e1 (I.ok.inj _ _ _ e hc ▸ hi))
   · by_cases hcc:c'=c
     · subst hcc; exact ⟨_,hc'⟩
     · obtain ⟨w2,z2⟩:=I.cell y c' e
       exact ⟨w2,z2.sameBut hs hcc⟩
   · obtain ⟨e,n,ne,nf,d⟩:=I.pin p hp
     refine ⟨(hs.2 p.1 ?_).trans e,n,ne,nf,d⟩
     intro q
     rw [q,hoc] at e
     have q':oc=p.2:=EU e
     exact d w' (by rw [← q']; exact hocd)
theorem ml {M:LA} {A:u_} {E:Value→c_→Prop} {i:Nat} {x:Str} {v:V} {u:Value} {Q:Unit→c_→Prop} (I:Inv X pins σ H s) (hN:X.N.Nodup) (hi:X.N[i]?=some x) (hx:Loc X.env.scope x) (r:RelV v u)
 (h:∀ s',Inv X pins (σ.set i (some v)) H s'→Q () s') (hf:X.fn x=true∨X.env.scope.names.lookup x=some .local:=by first | exact .inl rfl | exact .inr rfl | assumption):l_ M A (storeName X.env x u) Q E s :=
 oJ I hN hi hx r (fun s' I' _=>h s' I') hf
theorem Inv.call' {s':c_} {ch:List Addr} (I:Inv X pins σ H s) (ho:s'.os=s.os) (u:Un (frs X.stack) ch H H' s.heap s'.heap) (hok:HOk X.prog X.w H' s'.heap) (hg:Jf s'.gens)
 (hch:∀ b∈ch,(b∈X.ex∨X.s₀.heap.objs.size≤b)∧b≠X.env.locals∧(∀ x c,X.env.cells.lookup x=some c→c≠b)∧∀ p∈X.pn ++ pins,p.1≠b):Inv X pins σ H' s':=by
 obtain ⟨h',g',d',t',o'⟩:=s'
 have e:o'=s.os:=ho
 subst e
 exact I.call (g':=g') (t':=t') (d':=d') u hok hg hch
end
abbrev XK:=Value→Option Addr→Hp→Prop
abbrev St:=List (Option V)
abbrev VK:=V→Hp→Prop
abbrev TE:=St→Hp→VK→Prop
abbrev TT:=St→Hp→(Bool→Hp→Prop)→Prop
abbrev TA:=St→Hp→(List V→Hp→Prop)→Prop
structure oB where
 nx:St→Hp→Prop
 rt:VK
 bk:St→Hp→Prop:=fun _ _=>False
 ct:St→Hp→Prop:=fun _ _=>False
abbrev TS:=oB→St→Hp→Prop
def EP (X:Cx) (pins:List (Addr×Obj)) (σ:St) (Q:VK) (u:Value) (s':c_):Prop:=∃ v H',Inv X pins σ H' s'∧RelV v u∧Q v H'
def TP (X:Cx) (pins:List (Addr×Obj)) (σ:St) (Q:Bool→Hp→Prop) (b:Bool) (s':c_):Prop:=∃ H',Inv X pins σ H' s'∧Q b H'
def AP (X:Cx) (pins:List (Addr×Obj)) (σ:St) (Q:List V→Hp→Prop) (us:List Value) (s':c_):Prop:=∃ vs H',Inv X pins σ H' s'∧Vals vs us∧Q vs H'
def SP (X:Cx) (pins:List (Addr×Obj)) (D:oB) (f:Flow) (s':c_):Prop :=
 match f with
 | .next=>∃ σ' H',Inv X pins σ' H' s'∧D.nx σ' H'
 | .brk=>∃ σ' H',Inv X pins σ' H' s'∧D.bk σ' H'
 | .cont=>∃ σ' H',Inv X pins σ' H' s'∧D.ct σ' H'
 | .ret u=>∃ v σ' H',Inv X pins σ' H' s'∧RelV v u∧D.rt v H'
def PE (X:Cx) (e:Expr) (t:TE):Prop :=
 ∀ (pins:List (Addr×Obj)) (s:c_) (σ:St) (H:Hp) (Q:VK),Inv X pins σ H s→t σ H Q→l_ (s_ X.prog X.w) X.A (eval e X.env) (EP X pins σ Q) X.xe s
def PT (X:Cx) (e:Expr) (t:TT):Prop :=
 ∀ (pins:List (Addr×Obj)) (s:c_) (σ:St) (H:Hp) (Q:Bool→Hp→Prop),Inv X pins σ H s→t σ H Q→l_ (s_ X.prog X.w) X.A (isTrue e X.env (eval e X.env)) (TP X pins σ Q) X.xe s
def PW (X:Cx) (e:Expr) (t:TT):Prop :=
 ∀ (whole:Sem Value) (pins:List (Addr×Obj)) (s:c_) (σ:St) (H:Hp) (Q:Bool→Hp→Prop),Inv X pins σ H s→t σ H Q→l_ (s_ X.prog X.w) X.A (isTrue e X.env whole) (TP X pins σ Q) X.xe s
theorem PW.pt {X:Cx} {e:Expr} {t:TT} (h:PW X e t):PT X e t:=h _
def PA (X:Cx) (es:List Expr) (t:TA):Prop :=
 ∀ (pos:Pos) (pins:List (Addr×Obj)) (s:c_) (σ:St) (H:Hp) (Q:List V→Hp→Prop),Inv X pins σ H s→t σ H Q→l_ (s_ X.prog X.w) X.A (spliced (EY pos (f_ es X.env))) (AP X pins σ Q) X.xe s
def PS (X:Cx) (st:Stmt) (t:TS):Prop :=
 ∀ (pins:List (Addr×Obj)) (s:c_) (σ:St) (H:Hp) (D:oB),Inv X pins σ H s→t D σ H→l_ (s_ X.prog X.w) X.A (exec st X.env) (SP X pins D) X.xe s
def PSs (X:Cx) (st:List Stmt) (t:TS):Prop :=
 ∀ (pins:List (Addr×Obj)) (s:c_) (σ:St) (H:Hp) (D:oB),Inv X pins σ H s→t D σ H→l_ (s_ X.prog X.w) X.A (execs st X.env) (SP X pins D) X.xe s
theorem thn {α:Type} {t:Sem α} {Q Q':α→c_→Prop} {M:LA} {A:u_} {E:Value→c_→Prop} {s:c_} (h:l_ M A t Q E s) (hQ:∀ a s,Q a s→Q' a s):l_ M A t Q' E s:=EO h hQ fun _ _ x=>x
section
variable {X:Cx}
def uy (i:Nat):TE:=fun σ H Q=>∃ v,σ[i]?=some (some v)∧Q v H
def tC (v:V):TE:=fun _ H Q=>Q v H
theorem oK {i:Nat} {x:Str} {pos:Pos} (hN:X.N[i]?=some x) (hv:Vis X.env.scope x) (hd:(x == ("__debug__":Str))=false:=by decide) (hcd:(x == ("__classdict__":Str))=false:=by decide):PE X (.Name x pos) (uy i):=by
 intro pins s σ H Q I h
 obtain ⟨v,e,h⟩:=h
 obtain ⟨m,hn,hl⟩:=I.loc
 obtain ⟨u,r,l⟩:=hl i x v hN e hv
 have fin:EP X pins σ Q u s:=⟨v,H,I,r,h⟩
 rcases l with ⟨hk,hm⟩ | ⟨hk,c,hc,hcell⟩
 · exact wpAny_Name (wpAny_loadName_local I.ok.kind hk hn hm fin) hd
 · rcases hk with hk | hk
   · exact wpAny_Name (wpAny_loadName_cell I.ok.kind hk hc hcell fin) hd
   · exact wpAny_Name (wpAny_loadName_free I.ok.kind hk hc hcell fin hcd) hd
theorem x4 {i j pos}:PE X (.Constant (.int i) j pos) (tC (.int i)):=fun _ _ _ H _ I h=>wpAny_Constant_int ⟨.int i,H,I.tok _,⟨_,rfl⟩,h⟩
theorem Bz {b j pos}:PE X (.Constant (.bool b) j pos) (tC (.bl b)):=fun _ _ _ H _ I h=>Constant_bool ⟨.bl b,H,I,rfl,h⟩
theorem x5 {j pos}:PE X (.Constant .none j pos) (tC .non):=fun _ _ _ H _ I h=>Constant_none ⟨.non,H,I,rfl,h⟩
theorem x8 {x j pos}:PE X (.Constant (.str x) j pos) (tC (.str x)):=fun _ _ _ H _ I h=>Calls.Constant_str ⟨.str x,H,I.tok _,⟨_,rfl⟩,h⟩
def Gl (X:Cx) (x:Str):Prop:=X.env.kindOf x=some .globalImplicit
theorem kY {E:Value→c_→Prop} {pins:List (Addr×Obj)} {s:c_} {σ:St} {H:Hp} {x:Str} {u:Value} {pos:Pos} {Q:Value→c_→Prop} (I:Inv X pins σ H s) (hg:Gl X x) (hm:X.mg x=some u) (h:Q u s)
 (hd:(x == ("__debug__":Str))=false:=by decide):l_ (s_ X.prog X.w) X.A (eval (.Name x pos) X.env) Q E s :=
 Jv I.ok.kind hg (Calls.loadGlobal_global (by rw [I.ok.glob]; exact I.mod.glob.keeps I.bk) hm h) hd
theorem dP {E:Value→c_→Prop} {pins:List (Addr×Obj)} {s:c_} {σ:St} {H:Hp} {x:Str} {u:Value} {pos:Pos} {Q:Value→c_→Prop} (I:Inv X pins σ H s) (hg:Gl X x) (hm:X.mg x=none) (hv:F9 x=some u) (h:Q u s)
 (hn:x≠"__name__":=by decide) (hd:(x == ("__debug__":Str))=false:=by decide):l_ (s_ X.prog X.w) X.A (eval (.Name x pos) X.env) Q E s:=by
 obtain ⟨mb,h1,h2⟩:=I.mod.blt
 exact Jv I.ok.kind hg (Calls.loadGlobal_builtin (by rw [I.ok.glob]; exact I.mod.glob.keeps I.bk) hm (by rw [I.ok.blt]; exact h1.keeps I.bk) ((h2 x hn).trans hv) h) hd
theorem oM {x:Str} {v:V} {u:Value} {pos:Pos} (hg:Gl X x) (hm:X.mg x=some u) (r:RelV v u) (hd:(x == ("__debug__":Str))=false:=by decide):PE X (.Name x pos) (tC v) :=
 fun _ _ _ H _ I h=>kY I hg hm ⟨v,H,I,r,h⟩ hd
theorem vv {x:Str} {v:V} {u:Value} {pos:Pos} (hg:Gl X x) (hm:X.mg x=none) (hv:F9 x=some u) (r:RelV v u) (hn:x≠"__name__":=by decide) (hd:(x == ("__debug__":Str))=false:=by decide):PE X (.Name x pos) (tC v) :=
 fun _ _ _ H _ I h=>dP I hg hm hv ⟨v,H,I,r,h⟩ hn hd
variable {a b:Expr} {ta tb:TE} {pos:Pos}
def tB (t:TE):TT:=fun σ H Q=>t σ H fun x H1=>∃ c,x=.bl c∧Q c H1
theorem ya {e:Expr} {t:TE} (h:PE X e t) (he:∀ whole,isTrue e X.env whole=(do let v ← whole; standAt e.pos; MD [v] (truthy v)):=by intro _; rfl):PT X e (tB t):=by
 intro pins s σ H Q I hw
 refine isTrue_plain (thn (h pins s σ H _ I hw) fun v s1 ⟨x,H1,I1,r1,q1⟩=>?_) (he _)
 obtain ⟨d,rfl,q⟩:=q1
 cases r1
 exact Go ⟨H1,I1,q⟩
variable {tA tB':TT} {rest:List Expr}
def DP (t u:TT):TT:=fun σ H Q=>t σ H fun c H1=>if c=true then u σ H1 Q else Q false H1
def tOr (t u:TT):TT:=fun σ H Q=>t σ H fun c H1=>if c=true then Q true H1 else u σ H1 Q
def DQ (t:TT):TT:=fun σ H Q=>t σ H fun c H1=>Q (!c) H1
theorem vw (ha:PT X a tA):PW X (.BoolOp .And [a] pos) tA:=by
 intro wh pins s σ H Q I h
 refine isTrue_and (thn (ha pins s σ H Q I h) fun c s1 e=>?_)
 cases c with
 | true=>exact isTrue_and_nil e
 | false=>exact e
theorem yb (ha:PT X a tA):PW X (.BoolOp .Or [a] pos) tA:=by
 intro wh pins s σ H Q I h
 refine isTrue_or (thn (ha pins s σ H Q I h) fun c s1 e=>?_)
 cases c with
 | false=>exact isTrue_or_nil e
 | true=>exact e
theorem yc (ha:PT X a tA) (hb:PW X (.BoolOp .And (b :: rest) pos) tB'):PW X (.BoolOp .And (a :: b :: rest) pos) (DP tA tB'):=by
 intro wh pins s σ H Q I h
 refine isTrue_and (thn (ha pins s σ H _ I h) fun c s1 ⟨H1,I1,q1⟩=>?_)
 cases c with
 | true=>exact hb wh pins s1 σ H1 Q I1 q1
 | false=>exact ⟨H1,I1,q1⟩
theorem BA (ha:PT X a tA) (hb:PW X (.BoolOp .Or (b :: rest) pos) tB'):PW X (.BoolOp .Or (a :: b :: rest) pos) (tOr tA tB'):=by
 intro wh pins s σ H Q I h
 refine isTrue_or (thn (ha pins s σ H _ I h) fun c s1 ⟨H1,I1,q1⟩=>?_)
 cases c with
 | true=>exact ⟨H1,I1,q1⟩
 | false=>exact hb wh pins s1 σ H1 Q I1 q1
theorem yd (ha:PT X a tA):PT X (.UnaryOp .Not a pos) (DQ tA):=by
 intro pins s σ H Q I h
 exact isTrue_not (ha pins s σ H (fun c H1=>Q (!c) H1) I h)
def BB (ta tb:TE):TE:=fun σ H Q=>ta σ H fun x H1=>∃ c,x=.bl c∧if c=true then tb σ H1 Q else Q (.bl false) H1
def DR (ta tb:TE):TE:=fun σ H Q=>ta σ H fun x H1=>∃ c,x=.bl c∧if c=true then Q (.bl true) H1 else tb σ H1 Q
def BC (ta:TE):TE:=fun σ H Q=>ta σ H fun x H1=>∃ c,x=.bl c∧Q (.bl (!c)) H1
theorem ye {op} {t:TE} (h:PE X a t):PE X (.BoolOp op [a] pos) t:=fun pins s σ H Q I hw=>BoolOp_one (h pins s σ H Q I hw)
theorem yf (ha:PE X a ta) (hb:PE X (.BoolOp .And (b :: rest) pos) tb):PE X (.BoolOp .And (a :: b :: rest) pos) (BB ta tb):=by
 intro pins s σ H Q I h
 refine BoolOp_and (thn (ha pins s σ H _ I h) fun v s1 ⟨x,H1,I1,r1,q1⟩=>?_)
 obtain ⟨c,rfl,q1⟩:=q1
 cases r1
 refine Go ?_
 cases c with
 | true=>exact hb pins s1 σ H1 Q I1 q1
 | false=>exact ⟨.bl false,H1,I1,rfl,q1⟩
theorem BD (ha:PE X a ta) (hb:PE X (.BoolOp .Or (b :: rest) pos) tb):PE X (.BoolOp .Or (a :: b :: rest) pos) (DR ta tb):=by
 intro pins s σ H Q I h
 refine BoolOp_or (thn (ha pins s σ H _ I h) fun v s1 ⟨x,H1,I1,r1,q1⟩=>?_)
 obtain ⟨c,rfl,q1⟩:=q1
 cases r1
 refine Go ?_
 cases c with
 | false=>exact hb pins s1 σ H1 Q I1 q1
 | true=>exact ⟨.bl true,H1,I1,rfl,q1⟩
theorem yg (ha:PE X a ta):PE X (.UnaryOp .Not a pos) (BC ta):=by
 intro pins s σ H Q I h
 refine UnaryOp_ (thn (ha pins s σ H _ I h) fun v s1 ⟨x,H1,I1,r1,q1⟩=>?_)
 obtain ⟨c,rfl,q1⟩:=q1
 cases r1
 exact not_of (Go ⟨.bl (!c),H1,I1,rfl,q1⟩)
def tIf (t:TT) (ta tb:TE):TE:=fun σ H Q=>t σ H fun c H1=>if c=true then ta σ H1 Q else tb σ H1 Q
theorem rW {c:Expr} (hc:PT X c tA) (ha:PE X a ta) (hb:PE X b tb):PE X (.IfExp c a b pos) (tIf tA ta tb):=by
 intro pins s σ H Q I h
 refine wpAny_IfExp (thn (hc pins s σ H _ I h) fun d s1 ⟨H1,I1,q1⟩=>?_)
 cases d with
 | true=>exact ha pins s1 σ H1 Q I1 q1
 | false=>exact hb pins s1 σ H1 Q I1 q1
end
def SqL (K:ck) (H:Hp) (a:Addr) (xs:List V):Prop :=
 Rd H a (.lst xs) ∨
  ∃ (o:Obj) (its:Array Value) (n:Nat),K.lookup a=some o∧o.cls=.type "list"∧o.dict=none∧o.data=.seq its n∧its.size≤sizeLine∧Vals xs its.toList
def SqT (K:ck) (H:Hp) (a:Addr) (xs:List V):Prop :=
 Rd H a (.tup xs) ∨
  ∃ (o:Obj) (its:Array Value) (n:Nat),K.lookup a=some o∧o.cls=.type "tuple"∧o.data=.seq its n∧its.size≤sizeLine∧Vals xs its.toList
def DS:Value→Option V
 | .none=>some .non
 | .bool b=>some (.bl b)
 | .int i _=>some (.int i)
 | .str x _=>some (.str x)
 | .bytes b _=>some (.byt b)
 | .float b _=>some (.flt b)
 | .ref a=>some (.ref a)
 | .type n=>some (.ty n)
 | _=>none
theorem RelV.abs {x:V} {u:Value} (r:RelV x u):DS u=some x:=by
 cases x with
 | non=>cases r; rfl
 | bl _=>cases r; rfl
 | int _=>obtain ⟨t,rfl⟩:=r; rfl
 | str _=>obtain ⟨t,rfl⟩:=r; rfl
 | byt _=>obtain ⟨t,rfl⟩:=r; rfl
 | flt _=>obtain ⟨t,rfl⟩:=r; rfl
 | ref _=>cases r; rfl
 | ty _=>cases r; rfl
theorem RelV.inj {x y:V} {u:Value} (r:RelV x u) (q:RelV y u):x=y:=EU (r.abs.symm.trans q.abs)
theorem Vals.inj:∀ {xs ys:List V} {us:List Value},Vals xs us→Vals ys us→xs=ys
 | _,_,_,.nil,.nil=>rfl
 | _,_,_,.cons r t,.cons r' t'=>by rw [r.inj r',Vals.inj t t']
section
variable {X:Cx} {pins:List (Addr×Obj)} {σ:St} {H:Hp} {s:c_} {a:Addr} {xs ys:List V}
theorem SqL.of {K:ck} (h:H a=some (.lst xs)):SqL K H a xs:=.inl (.inl h)
theorem SqT.of {K:ck} (h:H a=some (.tup xs)):SqT K H a xs:=.inl (.inl h)
theorem Inv.list (I:Inv X pins σ H s) (h:SqL X.K H a xs):∃ its:List Value,Vals xs its∧PlainL s.heap a its.toArray∧xs.length≤sizeLine:=by
 rcases h with h | ⟨o,its,n,hk,hc,hd,hs,hz,r⟩
 · obtain ⟨z,its,n,r,e⟩:=h.ok I.hok
   exact ⟨its,r,⟨_,n,e,rfl,rfl,rfl⟩,z⟩
 · refine ⟨its.toList,r,⟨o,n,I.kIn a o hk,hc,hd,by simpa using hs⟩,?_⟩
   have e:=r.length
   simp only [Fg] at e
   omega
theorem Inv.tuple (I:Inv X pins σ H s) (h:SqT X.K H a xs):∃ its:List Value,Vals xs its∧MT s.heap a its.toArray∧xs.length≤sizeLine:=by
 rcases h with h | ⟨o,its,n,hk,hc,hs,hz,r⟩
 · obtain ⟨z,its,r,p⟩:=h.ok I.hok
   exact ⟨its,r,p,z⟩
 · refine ⟨its.toList,r,⟨o,I.kIn a o hk,hc,n,by simpa using hs⟩,?_⟩
   have e:=r.length
   simp only [Fg] at e
   omega
theorem Inv.list_inj (I:Inv X pins σ H s) (h:SqL X.K H a xs) (h':SqL X.K H a ys):xs=ys:=by
 obtain ⟨its,r,⟨o,n,e,_,_,d⟩,_⟩:=I.list h
 obtain ⟨its',r',⟨o',n',e',_,_,d'⟩,_⟩:=I.list h'
 rw [e] at e'; cases e'
 rw [d] at d'
 injection d' with d1 _
 have:its=its':=by simpa using congrArg Array.toList d1
 subst this
 exact r.inj r'
theorem Inv.tuple_inj (I:Inv X pins σ H s) (h:SqT X.K H a xs) (h':SqT X.K H a ys):xs=ys:=by
 obtain ⟨its,r,⟨o,e,_,n,d⟩,_⟩:=I.tuple h
 obtain ⟨its',r',⟨o',e',_,n',d'⟩,_⟩:=I.tuple h'
 rw [e] at e'; cases e'
 rw [d] at d'
 injection d' with d1 _
 have:its=its':=by simpa using congrArg Array.toList d1
 subst this
 exact r.inj r'
end
abbrev Cx.wish (X:Cx) (E:Value→c_→Prop):Cx:={ X with xe:=E }
abbrev Cx.nox (X:Cx):Cx:=X.wish fun _ _=>False
theorem Cx.Ok.wish {X:Cx} (ok:X.Ok) (E:Value→c_→Prop):(X.wish E).Ok :=
 ⟨ok.mod,ok.kind,ok.glob,ok.blt,ok.above,ok.inj,ok.has,ok.cab,ok.hd,ok.frames,ok.stk,ok.exf,ok.bs,ok.bsz,ok.noex,ok.exfs,ok.funs,ok.frf⟩
theorem Cx.Ok.unwish {X:Cx} {E:Value→c_→Prop} (ok:(X.wish E).Ok):X.Ok :=
 ⟨ok.mod,ok.kind,ok.glob,ok.blt,ok.above,ok.inj,ok.has,ok.cab,ok.hd,ok.frames,ok.stk,ok.exf,ok.bs,ok.bsz,ok.noex,ok.exfs,ok.funs,ok.frf⟩
section
variable {X:Cx} {pins:List (Addr×Obj)} {σ:St} {H:Hp} {s:c_} {E:Value→c_→Prop}
theorem Inv.wish (I:Inv X pins σ H s) (E:Value→c_→Prop):Inv (X.wish E) pins σ H s:=⟨I.ok.wish E,I.os,I.bare,I.base,I.loc,I.cell,I.free,I.freeC,I.pin,I.hok,I.len⟩
theorem Inv.unwish (I:Inv (X.wish E) pins σ H s):Inv X pins σ H s:=⟨I.ok.unwish,I.os,I.bare,I.base,I.loc,I.cell,I.free,I.freeC,I.pin,I.hok,I.len⟩
theorem SP.unwish {D:oB} {f:Flow} {s':c_} (h:SP (X.wish E) pins D f s'):SP X pins D f s':=by
 cases f with
 | next=>obtain ⟨σ',H',I,q⟩:=h; exact ⟨σ',H',I.unwish,q⟩
 | brk=>obtain ⟨σ',H',I,q⟩:=h; exact ⟨σ',H',I.unwish,q⟩
 | cont=>obtain ⟨σ',H',I,q⟩:=h; exact ⟨σ',H',I.unwish,q⟩
 | ret u=>obtain ⟨v,σ',H',I,r,q⟩:=h; exact ⟨v,σ',H',I.unwish,r,q⟩
theorem PE.nox {e:Expr} {t:TE} (h:PE X.nox e t):PE X e t:=fun pins s σ H Q I hw =>
 EO (h pins s σ H Q (I.wish _) hw) (fun _ _ ⟨v,H',I',r,q⟩=>⟨v,H',I'.unwish,r,q⟩) fun _ _ z=>Fu z
theorem PT.nox {e:Expr} {t:TT} (h:PT X.nox e t):PT X e t:=fun pins s σ H Q I hw =>
 EO (h pins s σ H Q (I.wish _) hw) (fun _ _ ⟨H',I',q⟩=>⟨H',I'.unwish,q⟩) fun _ _ z=>Fu z
theorem PSs.nox {st:List Stmt} {t:TS} (h:PSs X.nox st t):PSs X st t:=fun pins s σ H D I hw =>
 EO (h pins s σ H D (I.wish _) hw) (fun _ _ q=>q.unwish) fun _ _ z=>Fu z
end
section
variable {X:Cx} {st:Stmt} {rest:List Stmt} {t u:TS} {e:Expr} {te:TE} {pos:Pos}
def BE:TS:=fun D σ H=>D.nx σ H
def DT (t u:TS):TS:=fun D σ H=>t { D with nx:=u D } σ H
theorem oN:PSs X [] BE:=fun _ _ σ H _ I h=>KJ ⟨σ,H,I,h⟩
theorem cG (h1:PS X st t) (h2:PSs X rest u):PSs X (st :: rest) (DT t u):=by
 intro pins s σ H D I h
 refine wpAny_execs_cons (thn (h1 pins s σ H { D with nx:=u D } I h) fun f s1 q=>?_)
 cases f with
 | next =>
  obtain ⟨σ',H',I',q⟩:=q
  exact h2 pins s1 σ' H' D I' q
 | ret v=>exact q
 | brk=>exact q
 | cont=>exact q
theorem kZ (h1:PS X st t):PSs X [st] t:=by
 intro pins s σ H D I h
 refine wpAny_execs_cons (thn (h1 pins s σ H D I h) fun f s1 q=>?_)
 cases f with
 | next=>exact KJ q
 | ret v=>exact q
 | brk=>exact q
 | cont=>exact q
theorem Inv.quiet {pins:List (Addr×Obj)} {σ:St} {H:Hp} {s:c_} (I:Inv X pins σ H s):interactive X.env=false:=by simp [interactive,I.ok.kind]
def BF (te:TE):TS:=fun D σ H=>te σ H fun _ H1=>D.nx σ H1
theorem oO (he:PE X e te) (hs:Fk e none pos.line X.env=pure false:=by rfl):PS X (.Expr e pos) (BF te):=by
 intro pins s σ H D I h
 exact wpAny_Expr_any (thn (he pins s σ H _ I h) fun v s1 ⟨x,H1,I1,r1,q1⟩=>⟨σ,H1,I1,q1⟩) I.quiet hs
def DU (te:TE):TS:=fun D σ H=>te σ H D.rt
theorem uz (he:PE X e te):PS X (.Return (some e) pos) (DU te):=by
 intro pins s σ H D I h
 exact wpAny_Return_some (thn (he pins s σ H _ I h) fun v s1 ⟨x,H1,I1,r1,q1⟩=>⟨x,σ,H1,I1,r1,q1⟩)
def DV (c:TT) (t u:TS):TS:=fun D σ H=>c σ H fun b H1=>if b=true then t D σ H1 else u D σ H1
theorem vx {c:Expr} {a b:List Stmt} {tc:TT} (hc:PT X c tc) (ha:PSs X a t) (hb:PSs X b u):PS X (.If c a b pos) (DV tc t u):=by
 intro pins s σ H D I h
 refine wpAny_If (thn (hc pins s σ H _ I h) fun d s1 ⟨H1,I1,q1⟩=>?_)
 cases d with
 | true=>exact ha pins s1 σ H1 D I1 q1
 | false=>exact hb pins s1 σ H1 D I1 q1
def yh:TS:=fun _ _ _=>False
theorem rX:PS X st yh:=fun _ _ _ _ _ _ h=>h.elim
end
abbrev TG:=V→St→Hp→(St→Hp→Prop)→Prop
abbrev TGs:=List V→St→Hp→(St→Hp→Prop)→Prop
def PG (X:Cx) (target:Expr) (t:TG):Prop :=
 ∀ (pins:List (Addr×Obj)) (s:c_) (σ:St) (H:Hp) (v:V) (u:Value) (Q:St→Hp→Prop),Inv X pins σ H s→RelV v u→t v σ H Q →
  l_ (s_ X.prog X.w) X.A (Hn target X.env u) (fun _ s'=>∃ σ' H',Inv X pins σ' H' s'∧Q σ' H') X.xe s
def PGs (X:Cx) (ts:List Expr) (t:TGs):Prop :=
 ∀ (pins:List (Addr×Obj)) (s:c_) (σ:St) (H:Hp) (vs:List V) (us:List Value) (Q:St→Hp→Prop),Inv X pins σ H s→Vals vs us→t vs σ H Q →
  l_ (s_ X.prog X.w) X.A (assignInOrder ((C_ ts X.env).map (·.2)) us) (fun _ s'=>∃ σ' H',Inv X pins σ' H' s'∧Q σ' H') X.xe s
section
variable {X:Cx} {pos:Pos}
def oP (i:Nat):TG:=fun v σ H Q=>Q (σ.set i (some v)) H
theorem cq {i:Nat} {x:Str} (hN:X.N.Nodup) (hi:X.N[i]?=some x) (hx:Loc X.env.scope x) (hf:X.fn x=true∨X.env.scope.names.lookup x=some .local:=by first | exact .inl rfl | exact .inr rfl | assumption):PG X (.Name x pos) (oP i):=by
 intro pins s σ H v u Q I r h
 exact wpAny_assign_Name (ml I hN hi hx r (fun s' I'=>⟨_,H,I',h⟩) hf)
def DW:TGs:=fun vs σ H Q=>vs=[]∧Q σ H
def BG (t:TG) (u:TGs):TGs:=fun vs σ H Q=>∃ v r,vs=v :: r∧t v σ H fun σ' H'=>u r σ' H' Q
theorem k6:PGs X [] DW:=by
 intro pins s σ H vs us Q I r h
 obtain ⟨e,h⟩:=h
 subst e
 cases r
 exact assignInOrder_nil ⟨σ,H,I,h⟩
theorem dQ {e:Expr} {es:List Expr} {t:TG} {u:TGs} (h1:PG X e t) (h2:PGs X es u)
 (hs:(C_ (e :: es) X.env).map (·.2)=Hn e X.env :: (C_ es X.env).map (·.2):=by rfl):PGs X (e :: es) (BG t u):=by
 intro pins s σ H vs us Q I r h
 obtain ⟨v,vr,e1,h⟩:=h
 subst e1
 cases r with
 | cons r rr =>
  rw [hs]
  refine assignInOrder_cons (thn (h1 pins s σ H _ _ _ I r h) fun _ s1 ⟨σ1,H1,I1,q1⟩=>?_)
  exact h2 pins s1 σ1 H1 _ _ Q I1 rr q1
def DX (K:ck) (n:Nat) (t:TGs):TG:=fun v σ H Q=>∃ a xs,v=.ref a∧SqT K H a xs∧xs.length=n∧t xs σ H Q
theorem oQ {es:List Expr} {k:Nat} {t:TGs} {n:Nat} (hc:X.calm=true) (h:PGs X es t)
 (hn:(C_ es X.env).length=n:=by rfl) (hst:(C_ es X.env).findIdx? (·.1)=none:=by rfl):PG X (.Tuple es k pos) (DX X.K n t):=by
 intro pins s σ H v u Q I r hw
 obtain ⟨a,xs,e1,hq,hl,hw⟩:=hw
 subst e1
 cases r
 obtain ⟨its,rv,ht,hz⟩:=I.tuple hq
 refine assign_Tuple_tuple (I.ok.hd hc) ht (by simp [hn,← hl,rv.length]) hst fun h' hx=>?_
 have I1:Inv X pins σ H { s with heap:=h' }:=I.kept (t':=s.toks) fun b o e=>hx b o (z_ (q_ e)) e
 exact h pins _ σ H xs _ Q I1 (by simpa using rv) hw
def Dg (te:TE) (g:TG):TS:=fun D σ H=>te σ H fun x H1=>g x σ H1 D.nx
theorem yi {tg e:Expr} {te:TE} {g:TG} (he:PE X e te) (hg:PG X tg g) (hs:swapsWithSole [tg] e pos.line X.env=pure false:=by rfl) (hw:swappedStores [tg] e X.env=pure none:=by rfl)
 (h1:(C_ [tg] X.env).map (·.2)=[Hn tg X.env]:=by rfl):PS X (.Assign [tg] e pos) (Dg te g):=by
 intro pins s σ H D I h
 refine wpAny_Assign_stores (thn (he pins s σ H _ I h) fun v s1 ⟨x,H1,I1,r1,q1⟩=>?_) hs hw
 rw [h1]
 exact thn (hg pins s1 σ H1 x v _ I1 r1 q1) fun _ s2 q=>q
theorem hU {i:Nat} {x:Str} {e:Expr} {te:TE} {pos':Pos} (hN:X.N.Nodup) (hi:X.N[i]?=some x) (hx:Loc X.env.scope x) (he:PE X e te) (hs:Fk e (some (.Name x pos')) pos.line X.env=pure false:=by rfl) (hf:X.fn x=true∨X.env.scope.names.lookup x=some .local:=by first | exact .inl rfl | exact .inr rfl | assumption) :
 PS X (.Assign [.Name x pos'] e pos) (Dg te (oP i)):=by
 intro pins s σ H D I h
 refine wpAny_Assign_Name (thn (he pins s σ H _ I h) fun v s1 ⟨y,H1,I1,r1,q1⟩=>?_) hs
 exact ml I1 hN hi hx r1 (fun s2 I2=>⟨_,H1,I2,q1⟩) hf
end
section
variable {X:Cx} {pos:Pos}
end
structure It where
 go:Nat→Hp→Prop
 yld:Nat→Hp→V→Hp→Prop
 stop:Nat→Hp→Prop
def nB (X:Cx) (pins:List (Addr×Obj)) (H:Hp) (b:Addr):Prop :=
 H b=none∧b≠X.env.locals∧b ∉ X.fs∧(b∈X.ex∨X.s₀.heap.objs.size≤b)∧(∀ x c,X.env.cells.lookup x=some c→c≠b)∧∀ p∈X.pn ++ pins,p.1≠b
theorem Inv.fpOk {X:Cx} {pins:List (Addr×Obj)} {σ:St} {H H':Hp} {s:c_} {b:Addr} (I:Inv X pins σ H s) (hb:s.heap.objs.size≤b) (hn:H' b=none):nB X pins H' b:=by
 refine ⟨hn,Jg (Ez I.lt hb),I.nofs hb,.inr (EM I.sz hb),fun x c e z=>?_,fun p hp z=>?_⟩
 · obtain ⟨v,q⟩:=I.cell x c e
   exact absurd (Ez q.lt (by rw [z]; exact hb)) (FH _)
 · exact absurd (Ez (q_ (I.pin p hp).1) (by rw [z]; exact hb)) (FH _)
structure uA (P:Program) (w:w_) (K:ck) (tg:Expr) (J:It) (fp:List Addr) (it:Addr) (tn:Nat→Heap→Prop):Prop where
 mem:it∈fp
 obj:∀ i h,tn i h→∀ b∈fp,∃ o,h.get? b=some o∧∀ v,o.data≠.cell v
 keep:∀ i h h',tn i h→(∀ b∈fp,∀ o,h.get? b=some o→h'.get? b=some o)→tn i h'
 item:∀ (X:Cx),X.prog=P→X.w=w→X.K=K→X.calm=true→∀ (i:Nat) (pins:List (Addr×Obj)) (s:c_) (σ:St) (H:Hp) (E:Value→c_→Prop),Inv X pins σ H s→(∀ b∈fp,nB X pins H b)→tn i s.heap→J.go i H →
  l_ (s_ P w) X.A (IY (.ref it)) (fun r s1=>∃ u,r=some u ∧
   l_ (s_ P w) X.A (I0 tg (.ref it) u) (fun _ s2=>∃ x H',Inv X pins σ H' s2∧RelV x u∧J.yld i H x H'∧tn (i + 1) s2.heap∧∀ b∈fp,H' b=none) E s1) E s
 done:∀ (X:Cx),X.prog=P→X.w=w→X.K=K→X.calm=true→∀ (i:Nat) (pins:List (Addr×Obj)) (s:c_) (σ:St) (H:Hp) (E:Value→c_→Prop),Inv X pins σ H s→(∀ b∈fp,nB X pins H b)→tn i s.heap→J.stop i H →
  l_ (s_ P w) X.A (IY (.ref it)) (fun r s1=>r=none∧Inv X pins σ H s1) E s
 self:∀ (A:u_) (i:Nat) (s:c_) (Q:Value→c_→Prop) (E:Value→c_→Prop),tn i s.heap→Q (.ref it) s→l_ (s_ P w) A (pyIter (.ref it)) Q E s
abbrev TI:=St→Hp→(It→Hp→Prop)→Prop
def PIE (X:Cx) (pins:List (Addr×Obj)) (σ:St) (tg:Expr) (R:It→Hp→Prop) (itv:Value) (s2:c_):Prop :=
 ∃ (it:Addr) (fp:List Addr) (tn:Nat→Heap→Prop) (J:It) (H':Hp),itv=.ref it∧Inv X pins σ H' s2∧uA X.prog X.w X.K tg J fp it tn∧tn 0 s2.heap∧(∀ b∈fp,nB X pins H' b)∧R J H'
def PI (X:Cx) (tg iter:Expr) (wi:TI):Prop :=
 ∀ (pins:List (Addr×Obj)) (s:c_) (σ:St) (H:Hp) (R:It→Hp→Prop),Inv X pins σ H s→wi σ H R →
  l_ (s_ X.prog X.w) X.A (eval iter X.env) (fun v s1=>l_ (s_ X.prog X.w) X.A (pyIter v) (PIE X pins σ tg R) X.xe s1) X.xe s
theorem rY {M:LA} {A:u_} {E:Value→c_→Prop} {s:c_} {tg:Expr} {it:Addr} {u:Value} {o:Obj} {n:String} {vs:Array Value} {Q:Unit→c_→Prop} (ho:s.heap.get? it=some o) (hc:o.cls=.type n) (hd:o.data=.fields vs)
 (hn:["enumerate","zip","dict_itemiterator","dict_reverseitemiterator","odict_iterator","itertools.zip_longest","itertools.pairwise"].contains n=false) (hQ:Q () s):l_ M A (I0 tg (.ref it) u) Q E s:=by
 unfold I0
 cases tg <;> first
  | exact d_ hQ
  | (cases u <;> first
      | exact d_ hQ
      | (refine a_ (wpAny_load ho ?_)
         rw [hc,hd]
         show l_ M A (if (["enumerate","zip","dict_itemiterator","dict_reverseitemiterator","odict_iterator","itertools.zip_longest","itertools.pairwise"].contains n && vs[0]? == some (IX _))=true then _ else _) Q E s
         rw [if_neg (by intro h; rw [hn,Bool.false_and] at h; cases h)]
         exact d_ hQ))
def Itl (K:ck) (a:Addr):It :=
 ⟨fun i H=>∃ xs x,SqL K H a xs∧xs[i]?=some x,fun i H x H'=>H'=H∧∀ xs,SqL K H a xs→xs[i]?=some x,fun i H=>∃ xs,SqL K H a xs∧xs.length≤i⟩
def Itt (K:ck) (a:Addr):It :=
 ⟨fun i H=>∃ xs x,SqT K H a xs∧xs[i]?=some x,fun i H x H'=>H'=H∧∀ xs,SqT K H a xs→xs[i]?=some x,fun i H=>∃ xs,SqT K H a xs∧xs.length≤i⟩
def Itr (lo:Int) (n:Nat):It:=⟨fun i _=>i < n,fun i H x H'=>H'=H∧x=.int (lo + i),fun i _=>n≤i⟩
theorem oR {P:Program} {w:w_} {K:ck} {tg:Expr} (a it:Addr):uA P w K tg (Itl K a) [it] it (fun i h=>h.IsListIter it a i) where
 mem:=by simp
 obj:=fun i h st b hb=>by
  have e:b=it:=by simpa using hb
  subst e
  obtain ⟨o,e,c,d⟩:=st
  exact ⟨o,e,fun v z=>by rw [d] at z; cases z⟩
 keep:=fun i h h' st k=>st.at fun o e=>k it (by simp) o e
 item:=by
  intro X hP hw hK hc i pins s σ H E I hf st hg
  subst hP hw hK
  obtain ⟨xs,x,hq,hx⟩:=hg
  obtain ⟨its,rv,p,hz⟩:=I.list hq
  obtain ⟨u,hu,ru⟩:=rv.get hx
  obtain ⟨f0,f1,f2,f3,f4,f5⟩:=hf it (by simp)
  refine wpAny_pyNext_list_item st p.isList (x:=u) (by simpa using hu) fun h' st' sb=>?_
  have I1:Inv X pins σ H { s with heap:=h' }:=I.turned (t':=s.toks) (fun b o hb e=>(sb.2 b hb).trans e) f0 f1 f3 f4 f5
  obtain ⟨o,e,c,d⟩:=id st'
  exact ⟨u,rfl,rY (s:={ s with heap:=h' }) e c d (by decide) ⟨x,H,I1,ru,⟨rfl,fun ys hy=>by rw [I.list_inj hy hq]; exact hx⟩,st',fun b hb=>(hf b hb).1⟩⟩
 done:=by
  intro X hP hw hK hc i pins s σ H E I hf st hg
  subst hP hw hK
  obtain ⟨xs,hq,hx⟩:=hg
  obtain ⟨its,rv,p,hz⟩:=I.list hq
  obtain ⟨f0,f1,f2,f3,f4,f5⟩:=hf it (by simp)
  have hl:=rv.length
  exact wpAny_pyNext_list_end (I.ok.hd hc) st p.isList (by simp; omega) fun h' eb=>⟨rfl,I.turned (t':=s.toks) (fun b o hb e=>eb b o hb e) f0 f1 f3 f4 f5⟩
 self:=fun _ _ _ _ _ st h=>wpAny_pyIter_listiter st h
theorem hX {P:Program} {w:w_} {K:ck} {tg:Expr} (a it:Addr):uA P w K tg (Itt K a) [it] it (fun i h=>h.IsTupleIter it a i) where
 mem:=by simp
 obj:=fun i h st b hb=>by
  have e:b=it:=by simpa using hb
  subst e
  obtain ⟨o,e,c,d⟩:=st
  exact ⟨o,e,fun v z=>by rw [d] at z; cases z⟩
 keep:=fun i h h' st k=>st.at fun o e=>k it (by simp) o e
 item:=by
  intro X hP hw hK hc i pins s σ H E I hf st hg
  subst hP hw hK
  obtain ⟨xs,x,hq,hx⟩:=hg
  obtain ⟨its,rv,p,hz⟩:=I.tuple hq
  obtain ⟨u,hu,ru⟩:=rv.get hx
  obtain ⟨f0,f1,f2,f3,f4,f5⟩:=hf it (by simp)
  refine wpAny_pyNext_tuple_item st (show s.heap.IsTuple a its.toArray from p) (x:=u) (by simpa using hu) fun h' st' sb=>?_
  have I1:Inv X pins σ H { s with heap:=h' }:=I.turned (t':=s.toks) (fun b o hb e=>(sb.2 b hb).trans e) f0 f1 f3 f4 f5
  obtain ⟨o,e,c,d⟩:=id st'
  exact ⟨u,rfl,rY (s:={ s with heap:=h' }) e c d (by decide) ⟨x,H,I1,ru,⟨rfl,fun ys hy=>by rw [I.tuple_inj hy hq]; exact hx⟩,st',fun b hb=>(hf b hb).1⟩⟩
 done:=by
  intro X hP hw hK hc i pins s σ H E I hf st hg
  subst hP hw hK
  obtain ⟨xs,hq,hx⟩:=hg
  obtain ⟨its,rv,p,hz⟩:=I.tuple hq
  obtain ⟨f0,f1,f2,f3,f4,f5⟩:=hf it (by simp)
  have hl:=rv.length
  exact wpAny_pyNext_tuple_end (I.ok.hd hc) st (show s.heap.IsTuple a its.toArray from p) (by simp; omega) fun h' eb=>⟨rfl,I.turned (t':=s.toks) (fun b o hb e=>eb b o hb e) f0 f1 f3 f4 f5⟩
 self:=fun _ _ _ _ _ st h=>wpAny_pyIter_tupleiter st h
theorem nE {P:Program} {w:w_} {K:ck} {tg:Expr} (it:Addr) (lo:Int) (n:Nat):uA P w K tg (Itr lo n) [it] it (fun i h=>IsRangeIter h it (lo + (i:Nat) * 1) ((n:Int) - (i:Nat)) 1) where
 mem:=by simp
 obj:=fun i h st b hb=>by
  have e:b=it:=by simpa using hb
  subst e
  exact ⟨_,st,fun v z=>by
   have z':Mw _=Data.cell v:=z
   cases z'⟩
 keep:=fun i h h' st k=>k it (by simp) _ st
 item:=by
  intro X hP hw hK hc i pins s σ H E I hf st hg
  subst hP hw hK
  obtain ⟨f0,f1,f2,f3,f4,f5⟩:=hf it (by simp)
  have W:=Walks.range (prog:=X.prog) (w:=X.w) (I.ok.hd hc) it lo 1 n
  refine W.item i s _ _ hg st fun v h' tk hv st' kk=>?_
  obtain ⟨t,rfl⟩:=hv
  have I1:Inv X pins σ H { s with heap:=h',toks:=tk }:=I.turned (fun b o hb e=>kk b o (by simpa using hb) e) f0 f1 f3 f4 f5
  refine ⟨_,rfl,rY (s:={ s with heap:=h',toks:=tk }) (n:="range_iterator") st' rfl rfl (by decide) ⟨.int (lo + i),H,I1,⟨t,?_⟩,⟨rfl,rfl⟩,st',fun b hb=>(hf b hb).1⟩⟩
  rw [Int.mul_one]
 done:=by
  intro X hP hw hK hc i pins s σ H E I hf st hg
  subst hP hw hK
  obtain ⟨f0,f1,f2,f3,f4,f5⟩:=hf it (by simp)
  exact wpAny_pyNext_range_end (I.ok.hd hc) st (by have:n≤i:=hg; omega) fun h' eb=>⟨rfl,I.turned (t':=s.toks) (fun b o hb e=>eb b o hb e) f0 f1 f3 f4 f5⟩
 self:=fun _ _ _ _ _ st h=>wpAny_pyIter_rangeiter st h
section
variable {X:Cx} {tg:Expr}
def DY (K:ck) (tl:TE):TI:=fun σ H R=>tl σ H fun x H1=>∃ a,x=.ref a∧(∃ xs,SqT K H1 a xs)∧R (Itt K a) H1
theorem yj {l:Expr} {tl:TE} (hl:PE X l tl):PI X tg l (DY X.K tl):=by
 intro pins s σ H R I h
 refine thn (hl pins s σ H _ I h) fun v s1 ⟨x,H1,I1,r1,q1⟩=>?_
 obtain ⟨a,e,⟨xs,hq⟩,q⟩:=q1
 subst e
 cases r1
 obtain ⟨its,rv,p,hz⟩:=I1.tuple hq
 refine HS (show s1.heap.IsTuple a its.toArray from p) ?_
 refine ⟨s1.heap.objs.size,[s1.heap.objs.size],_,_,H1,rfl,I1.kept (t':=s1.toks) fun b o e=>e_ _ e,hX a _,⟨_,o_ _ rfl,rfl,rfl⟩,fun b hb=>?_,q⟩
 have e:b=s1.heap.objs.size:=by simpa using hb
 subst e
 exact I1.fpOk (j_ _) (I1.hok.fresh (j_ _))
theorem mn {pins:List (Addr×Obj)} {σ:St} {H:Hp} {s:c_} {R:It→Hp→Prop} {E:Value→c_→Prop} {lo hi:Int} {t u v:Tok} {tk:Nat} (I:Inv X pins σ H s) (h1:-(2 ^ 62)≤lo) (h2:lo < 2 ^ 62) (h3:-(2 ^ 62)≤hi) (h4:hi < 2 ^ 62)
 (q:R (Itr lo (hi - lo).toNat) H):l_ (s_ X.prog X.w) X.A (pyIter (.ref s.heap.objs.size)) (PIE X pins σ tg R) E { s with heap:=s.heap.push { cls:=.type "range",data:=.fields #[.int lo t,.int hi u,.int 1 v] },toks:=tk }:=by
 refine wpAny_pyIter_range (IsRange.new ..) (small_one h1 h2 h3 h4) ?_
 have I1:Inv X pins σ H { s with heap:=s.heap.push { cls:=.type "range",data:=.fields #[.int lo t,.int hi u,.int 1 v] },toks:=tk }:=I.kept fun b o e=>e_ _ e
 refine ⟨(s.heap.push { cls:=.type "range",data:=.fields #[.int lo t,.int hi u,.int 1 v] }).objs.size,[(s.heap.push { cls:=.type "range",data:=.fields #[.int lo t,.int hi u,.int 1 v] }).objs.size],_,_,H,rfl,
  I1.kept (t':=tk) fun b o e=>e_ _ e,nE _ lo (hi - lo).toNat,?_,fun b hb=>?_,q⟩
 · have e1:lo + ((0:Nat):Int) * 1=lo:=by simp
   have e2:(((hi - lo).toNat:Nat):Int) - ((0:Nat):Int)=Builtin.Range.rangeSize lo hi 1:=by rw [rangeSize_one]; split <;> omega
   show IsRangeIter _ _ (lo + ((0:Nat):Int) * 1) ((((hi - lo).toNat:Nat):Int) - ((0:Nat):Int)) 1
   rw [e1,e2]
   exact o_ _ rfl
 · have e:b=(s.heap.push { cls:=.type "range",data:=.fields #[.int lo t,.int hi u,.int 1 v] }).objs.size:=by simpa using hb
   subst e
   exact I1.fpOk (j_ _) (I1.hok.fresh (j_ _))
def BH (ta:TA):TI:=fun σ H R=>ta σ H fun vs H1=>∃ j:Int,vs=[.int j]∧-(2 ^ 62)≤j∧j < 2 ^ 62∧R (Itr 0 j.toNat) H1
def BI (ta:TA):TI:=fun σ H R=>ta σ H fun vs H1=>∃ i j:Int,vs=[.int i,.int j]∧(-(2 ^ 62)≤i∧i < 2 ^ 62∧-(2 ^ 62)≤j∧j < 2 ^ 62)∧R (Itr i (j - i).toNat) H1
theorem oU {a:Expr} {ta:TA} {p pos:Pos} (hg:Gl X "range") (hm:X.mg "range"=none) (ha:PA X [a] ta) (hs:f_ [a] X.env=[(false,eval a X.env)]:=by rfl):PI X tg (.Call (.Name "range" p) [a] [] pos) (BH ta):=by
 intro pins s σ H R I h
 refine Call_ (dP I hg hm boot_range (F5 (thn (ha pos pins s σ H _ I h) fun us s1 ⟨vs,H1,I1,r1,q1⟩=>?_) hs rfl))
 obtain ⟨j,e,q1,q2,q⟩:=q1
 subst e
 cases r1 with
 | cons r rr =>
  cases rr
  obtain ⟨t,rfl⟩:=r
  exact call_range_1 (mn I1 (by omega) (by omega) q1 q2 (by simpa using q))
theorem oV {a b:Expr} {ta:TA} {p pos:Pos} (hg:Gl X "range") (hm:X.mg "range"=none) (ha:PA X [a,b] ta) (hs:f_ [a,b] X.env=[(false,eval a X.env),(false,eval b X.env)]:=by rfl) (hs2:f_ [b] X.env=[(false,eval b X.env)]:=by rfl) :
 PI X tg (.Call (.Name "range" p) [a,b] [] pos) (BI ta):=by
 intro pins s σ H R I h
 refine Call_ (dP I hg hm boot_range (F5 (thn (ha pos pins s σ H _ I h) fun us s1 ⟨vs,H1,I1,r1,q1⟩=>?_) (by rw [hs,hs2]) (by rw [hs2]; rfl)))
 obtain ⟨i,j,e,⟨q1,q2,q3,q4⟩,q⟩:=q1
 subst e
 cases r1 with
 | cons r rr =>
  cases rr with
  | cons r' rr =>
   cases rr
   obtain ⟨t,rfl⟩:=r
   obtain ⟨t',rfl⟩:=r'
   exact call_range_2 (mn I1 q1 q2 q3 q4 q)
def DZ (wi:TI) (g:TG) (tb:TS):TS:=fun D σ H=>wi σ H fun J H1=>∃ W:Nat→Nat→St→Hp→Prop,(∃ m,W 0 m σ H1)∧∀ i m σ H,W i m σ H →
 (J.stop i H∧D.nx σ H)∨(J.go i H∧∃ N:St→Hp→Prop,(∀ σ' H',N σ' H'→∃ m',m' < m∧W (i + 1) m' σ' H')∧∀ x H',J.yld i H x H'→g x σ H' fun σ2 H2=>tb { D with nx:=N,ct:=N,bk:=D.nx } σ2 H2)
def bG (fp:List Addr) (h:Heap):List (Addr×Obj):=fp.filterMap fun b=>(h.get? b).map fun o=>(b,o)
theorem bt {fp:List Addr} {h:Heap} {b:Addr} {o:Obj} (hb:b∈fp) (e:h.get? b=some o):(b,o)∈bG fp h:=GB.mpr ⟨b,hb,by rw [e]; rfl⟩
theorem fQ {fp:List Addr} {h:Heap} {p:Addr×Obj} (hp:p∈bG fp h):p.1∈fp∧h.get? p.1=some p.2:=by
 obtain ⟨b,hb,e⟩:=GB.mp hp
 cases q:h.get? b with
 | none=>rw [q] at e; cases e
 | some o =>
  rw [q] at e
  have e':(b,o)=p:=EU e
  subst e'
  exact ⟨hb,q⟩
theorem Inv.pinned {pins:List (Addr×Obj)} {σ:St} {H:Hp} {s:c_} {fp:List Addr} (I:Inv X pins σ H s) (hf:∀ b∈fp,nB X pins H b) (ho:∀ b∈fp,∃ o,s.heap.get? b=some o∧∀ v,o.data≠.cell v):Inv X (pins ++ bG fp s.heap) σ H s :=
 I.pins_of fun p hp=>(A_.mp hp).elim (fun z=>I.pin p (rl _ z)) fun z=>by
  obtain ⟨hb,e⟩:=fQ z
  obtain ⟨f0,f1,f2,_⟩:=hf p.1 hb
  obtain ⟨o,e',d⟩:=ho p.1 hb
  rw [e] at e'; cases e'
  exact ⟨e,f0,f1,f2,d⟩
theorem Inv.unpinned {pins pl:List (Addr×Obj)} {σ:St} {H:Hp} {s:c_} (I:Inv X (pins ++ pl) σ H s):Inv X pins σ H s:=I.pins_of fun p hp=>I.pin p (rl _ (E7 _ hp))
theorem mo {iter:Expr} {body:List Stmt} {wi:TI} {g:TG} {tb:TS} {pos:Pos} (hp:Ia (s_ X.prog X.w) X.A X.env X.xe) (hc:X.calm=true) (hi:PI X tg iter wi) (hg:PG X tg g) (hb:PSs X body tb)
 (hs:∀ x,EJ iter X.env x=pure x:=by intro _; rfl):PS X (.For tg iter body [] pos) (DZ wi g tb):=by
 intro pins s σ H D I h
 refine wpAny_For (thn (hi pins s σ H _ I h) fun v s1 h1=>thn h1 fun itv s2 h2=>?_) hs
 obtain ⟨it,fp,tn,J,H2,e,I2,T,st2,f2,W,⟨m0,w0⟩,turn⟩:=h2
 subst e
 have stat:∀ {H':Hp},(∀ b∈fp,H' b=none)→∀ b∈fp,nB X pins H' b:=fun hn b hb=>⟨hn b hb,(f2 b hb).2⟩
 refine codeAny_forLoop_any (fun n s'=>∃ i σ' H',Inv X pins σ' H' s'∧tn i s'.heap∧(∀ b∈fp,H' b=none)∧W i n σ' H') ?_ m0 ⟨0,σ,H2,I2,st2,fun b hb=>(f2 b hb).1,w0⟩
 rintro n s3 ⟨i,σ3,H3,I3,st3,fr3,w3⟩
 rcases turn i n σ3 H3 w3 with ⟨stop,qn⟩ | ⟨go,N,hN,step⟩
 · refine HP hp (thn (T.done X rfl rfl rfl hc i pins s3 σ3 H3 X.xe I3 (stat fr3) st3 stop) fun r s4 ⟨hr,I4⟩=>?_)
   subst hr
   exact KJ ⟨σ3,H3,I4,qn⟩
 · refine HP hp (thn (T.item X rfl rfl rfl hc i pins s3 σ3 H3 X.xe I3 (stat fr3) st3 go) fun r s4 ⟨u,hr,h4⟩=>?_)
   subst hr
   refine HP hp (thn h4 fun _ s5 ⟨x,H5,I5,r5,y5,st5,fr5⟩=>?_)
   have I5':=I5.pinned (stat fr5) (T.obj _ _ st5)
   refine HP hp (thn (hg _ s5 σ3 H5 x u _ I5' r5 (step x H5 y5)) fun _ s6 ⟨σ6,H6,I6,q6⟩=>?_)
   refine HP hp (thn (hb _ s6 σ6 H6 _ I6 q6) fun f s7 q7=>?_)
   have again:∀ {σ7:St} {H7:Hp},Inv X (pins ++ bG fp s5.heap) σ7 H7 s7→N σ7 H7→∃ m,m < n∧∃ i σ' H',Inv X pins σ' H' s7∧tn i s7.heap∧(∀ b∈fp,H' b=none)∧W i m σ' H':=fun {σ7 H7} I7 n7=>by
    obtain ⟨m',hm,w7⟩:=hN σ7 H7 n7
    refine ⟨m',hm,i + 1,σ7,H7,I7.unpinned,T.keep _ _ _ st5 fun b hb o e=>(I7.pin (b,o) (rl _ (rl _ (bt hb e)))).1,fun b hb=>?_,w7⟩
    obtain ⟨o,e,d⟩:=T.obj _ _ st5 b hb
    exact (I7.pin (b,o) (rl _ (rl _ (bt hb e)))).2.1
   cases f with
   | next=>obtain ⟨σ7,H7,I7,n7⟩:=q7; exact again I7 n7
   | cont=>obtain ⟨σ7,H7,I7,n7⟩:=q7; exact again I7 n7
   | brk=>obtain ⟨σ7,H7,I7,q7⟩:=q7; exact ⟨σ7,H7,I7.unpinned,q7⟩
   | ret v=>obtain ⟨x7,σ7,H7,I7,r7,q7⟩:=q7; exact ⟨x7,σ7,H7,I7.unpinned,r7,q7⟩
end
abbrev R2:=V→V→Hp→VK→Prop
def OpR (X:Cx) (f:Value→Value→Sem Value) (r:R2):Prop :=
 ∀ (pins:List (Addr×Obj)) (s:c_) (σ:St) (H:Hp) (x y:V) (v u:Value) (Q:VK),Inv X pins σ H s→RelV x v→RelV y u→r x y H Q →
  l_ (s_ X.prog X.w) X.A (f v u) (EP X pins σ Q) X.xe s
def UnR (X:Cx) (f:Value→Sem Value) (r:V→Hp→VK→Prop):Prop :=
 ∀ (pins:List (Addr×Obj)) (s:c_) (σ:St) (H:Hp) (x:V) (v:Value) (Q:VK),Inv X pins σ H s→RelV x v→r x H Q →
  l_ (s_ X.prog X.w) X.A (f v) (EP X pins σ Q) X.xe s
def CallR (X:Cx) (f:Value) (r:List V→Hp→VK→Prop):Prop :=
 ∀ (pins:List (Addr×Obj)) (s:c_) (σ:St) (H:Hp) (xs:List V) (us:List Value) (Q:VK),Inv X pins σ H s→Vals xs us→r xs H Q →
  l_ (s_ X.prog X.w) X.A (call f us) (EP X pins σ Q) X.xe s
def tOp (r:R2) (ta tb:TE):TE:=fun σ H Q=>ta σ H fun x H1=>tb σ H1 fun y H2=>r x y H2 Q
def tUn (r:V→Hp→VK→Prop) (ta:TE):TE:=fun σ H Q=>ta σ H fun x H1=>r x H1 Q
def rI (C:Int→Int→Prop) (g:Int→Int→V):R2:=fun x y H Q=>∃ i j,x=.int i∧y=.int j∧C i j∧Q (g i j) H
def rI0 (g:Int→Int→V):R2:=fun x y H Q=>∃ i j,x=.int i∧y=.int j∧Q (g i j) H
def rU (g:Int→V):V→Hp→VK→Prop:=fun x H Q=>∃ i,x=.int i∧Q (g i) H
section
variable {X:Cx} {a b c:Expr} {ta tb tc:TE} {pos:Pos}
theorem BJ (ha:PE X a ta) (hb:PE X b tb) {pins:List (Addr×Obj)} {s:c_} {σ:St} {H:Hp} {R:V→V→Hp→Prop} (I:Inv X pins σ H s)
 (h:ta σ H fun x H1=>tb σ H1 fun y H2=>R x y H2) {Q:Value→c_→Prop} {f:Value→Value→Sem Value}
 (hf:∀ v u s2 x y H2,Inv X pins σ H2 s2→RelV x v→RelV y u→R x y H2→l_ (s_ X.prog X.w) X.A (f v u) Q X.xe s2) :
 l_ (s_ X.prog X.w) X.A (eval a X.env) (fun v s₁=>l_ (s_ X.prog X.w) X.A (eval b X.env) (fun u s₂=>l_ (s_ X.prog X.w) X.A (f v u) Q X.xe s₂) X.xe s₁) X.xe s:=by
 refine thn (ha pins s σ H _ I h) fun v s1 ⟨x,H1,I1,r1,q1⟩=>?_
 refine thn (hb pins s1 σ H1 _ I1 q1) fun u s2 ⟨y,H2,I2,r2,q2⟩=>?_
 exact hf v u s2 x y H2 I2 r1 r2 q2
theorem BK {op:Operator} {r:R2} (ho:OpR X (GN op) r) (ha:PE X a ta) (hb:PE X b tb):PE X (.BinOp a op b pos) (tOp r ta tb):=by
 intro pins s σ H Q I h
 exact wpAny_BinOp (BJ ha hb I h fun v u s2 x y H2 I2 rx ry q=>ho pins s2 σ H2 x y v u Q I2 rx ry q)
theorem BL {op:UnaryOp} {r:V→Hp→VK→Prop} (ho:UnR X (unaryOp op) r) (ha:PE X a ta):PE X (.UnaryOp op a pos) (tUn r ta):=by
 intro pins s σ H Q I h
 exact UnaryOp_ (thn (ha pins s σ H _ I h) fun v s1 ⟨x,H1,I1,r1,q1⟩=>ho pins s1 σ H1 x v Q I1 r1 q1)
theorem opI {f:Value→Value→Sem Value} {C:Int→Int→Prop} {g:Int→Int→Int}
 (rule:∀ (i j:Int) (t u:Tok) (s:c_) (Q:Value→c_→Prop) (E:Value→c_→Prop),C i j→Q (.int (g i j) s.toks) { s with toks:=s.toks + 1 }→l_ (s_ X.prog X.w) X.A (f (.int i t) (.int j u)) Q E s) :
 OpR X f (rI C fun i j=>.int (g i j)):=by
 intro pins s σ H x y v u Q I rx ry h
 obtain ⟨i,j,rfl,rfl,hc,q⟩:=h
 obtain ⟨t,rfl⟩:=rx
 obtain ⟨t',rfl⟩:=ry
 exact rule i j t t' s _ _ hc ⟨.int (g i j),H,I.tok _,⟨_,rfl⟩,q⟩
theorem Dh {f:Value→Value→Sem Value} {g:Int→Int→Int}
 (rule:∀ (i j:Int) (t u:Tok) (s:c_) (Q:Value→c_→Prop) (E:Value→c_→Prop),Q (.int (g i j) s.toks) { s with toks:=s.toks + 1 }→l_ (s_ X.prog X.w) X.A (f (.int i t) (.int j u)) Q E s) :
 OpR X f (rI0 fun i j=>.int (g i j)):=by
 intro pins s σ H x y v u Q I rx ry h
 obtain ⟨i,j,rfl,rfl,q⟩:=h
 obtain ⟨t,rfl⟩:=rx
 obtain ⟨t',rfl⟩:=ry
 exact rule i j t t' s _ _ ⟨.int (g i j),H,I.tok _,⟨_,rfl⟩,q⟩
theorem BM {f:Value→Value→Sem Value} {g:Int→Int→Bool}
 (rule:∀ (i j:Int) (t u:Tok) (s:c_) (Q:Value→c_→Prop) (E:Value→c_→Prop),Q (.bool (g i j)) s→l_ (s_ X.prog X.w) X.A (f (.int i t) (.int j u)) Q E s) :
 OpR X f (rI0 fun i j=>.bl (g i j)):=by
 intro pins s σ H x y v u Q I rx ry h
 obtain ⟨i,j,rfl,rfl,q⟩:=h
 obtain ⟨t,rfl⟩:=rx
 obtain ⟨t',rfl⟩:=ry
 exact rule i j t t' s _ _ ⟨.bl (g i j),H,I,rfl,q⟩
def Di (i j:Int):Prop:=0 < j∧j < 1073741824
def CMul (i j:Int):Prop:=(-(2 ^ 64) < i∧i < 2 ^ 64)∨(-(2 ^ 64) < j∧j < 2 ^ 64)
theorem CMul.ok {i j:Int} (h:CMul i j):IntMulOk i j:=by
 rcases h with ⟨h1,h2⟩ | ⟨h1,h2⟩
 · exact .of_left (intBits_le_64 h1 h2)
 · exact .of_right (intBits_le_64 h1 h2)
theorem op_add:OpR X (GN .Add) (rI0 fun i j=>.int (i + j)):=Dh fun _ _ _ _ _ _ _ q=>add_int q
theorem yk:OpR X (GN .Sub) (rI0 fun i j=>.int (i - j)):=Dh fun _ _ _ _ _ _ _ q=>sub_int q
theorem ym:OpR X (GN .Mult) (rI CMul fun i j=>.int (i * j)):=opI fun _ _ _ _ _ _ _ hc q=>mul_int q hc.ok
theorem vy:OpR X (GN .FloorDiv) (rI Di fun i j=>.int (i / j)):=opI fun i j _ _ _ _ _ hc q=>by
 have h1:(0:Int) < j:=hc.1
 have h2:j < 1073741824:=hc.2
 exact floordiv_int (by omega) (by rw [Int.fdiv_eq_ediv_of_nonneg i (by omega)]; exact q) (.inl (PyProof.noPylong_small (by omega)))
theorem yn:OpR X (GN .Mod) (rI (fun _ j=>0 < j) fun i j=>.int (i % j)):=opI fun i j _ _ _ _ _ hc q=>by
 have h1:(0:Int) < j:=hc
 exact mod_int' (by omega) (by rw [Int.fmod_eq_emod_of_nonneg i (by omega)]; exact q)
theorem unI {f:Value→Sem Value} {g:Int→Int}
 (rule:∀ (i:Int) (t:Tok) (s:c_) (Q:Value→c_→Prop) (E:Value→c_→Prop),Q (.int (g i) s.toks) { s with toks:=s.toks + 1 }→l_ (s_ X.prog X.w) X.A (f (.int i t)) Q E s) :
 UnR X f (rU fun i=>.int (g i)):=by
 intro pins s σ H x v Q I rx h
 obtain ⟨i,rfl,q⟩:=h
 obtain ⟨t,rfl⟩:=rx
 exact rule i t s _ _ ⟨.int (g i),H,I.tok _,⟨_,rfl⟩,q⟩
theorem yo:UnR X (unaryOp .USub) (rU fun i=>.int (-i)):=unI fun _ _ _ _ _ q=>neg_int q
end
def BN:V→V→Bool
 | .non,.non=>true | .non,.int _=>true | .int _,.non=>true | .non,.bl _=>true | .bl _,.non=>true | .non,.str _=>true | .str _,.non=>true
 | .int _,.int _=>true | .bl _,.bl _=>true | .str _,.str _=>true | .byt _,.byt _=>true
 | .int _,.str _=>true | .str _,.int _=>true | .bl _,.str _=>true | .str _,.bl _=>true
 | _,_=>false
def rEq:R2:=fun x y H Q=>BN x y=true∧Q (.bl (decide (x=y))) H
def rNe:R2:=fun x y H Q=>BN x y=true∧Q (.bl (!decide (x=y))) H
theorem k7 {i j:Int}:decide (V.int i=V.int j)=(i == j):=by
 rw [Fh]
 simp
theorem oW {i j:Bool}:decide (V.bl i=V.bl j)=(i == j):=by
 rw [Fh]
 simp
theorem k8 {i j:Str}:decide (V.str i=V.str j)=(i == j):=by
 rw [Fh]
 simp
theorem oX {i j:Array UInt8}:decide (V.byt i=V.byt j)=(i.toList == j.toList):=by
 rw [Fh]
 cases i
 cases j
 simp
section
variable {X:Cx} {a b c:Expr} {ta tb tc:TE} {pos:Pos}
theorem aE {pins:List (Addr×Obj)} {σ:St} {H:Hp} {s:c_} {Q:VK} {k k':Bool} (I:Inv X pins σ H s) (q:Q (.bl k) H) (e:k=k'):EP X pins σ Q (.bool k') s:=by
 subst e
 exact ⟨.bl k,H,I,rfl,q⟩
theorem op_eq:OpR X (EF .Eq) rEq:=by
 intro pins s σ H x y v u Q I rx ry h
 obtain ⟨hs,q⟩:=h
 cases x with
 | non =>
  cases rx
  cases y with
  | non=>cases ry; exact PySem.EqNone.eq_none_none (aE I q (by simp))
  | bl j=>cases ry; exact PySem.EqNone.eq_none_bool (aE I q (by simp))
  | int j=>obtain ⟨t',rfl⟩:=ry; exact PySem.EqNone.eq_none_int (aE I q (by simp))
  | str j=>obtain ⟨t',rfl⟩:=ry; exact PySem.EqNone.eq_none_str (aE I q (by simp))
  | _=>exact absurd (show false=true from hs) p_
 | bl i =>
  cases rx
  cases y with
  | non=>cases ry; exact PySem.EqNone.eq_bool_none (aE I q (by simp))
  | bl j=>cases ry; exact eq_bool (aE I q oW)
  | str j=>obtain ⟨t',rfl⟩:=ry; exact PySem.EqMixed.eq_bool_str (aE I q (by simp))
  | _=>exact absurd (show false=true from hs) p_
 | int i =>
  obtain ⟨t,rfl⟩:=rx
  cases y with
  | non=>cases ry; exact PySem.EqNone.eq_int_none (aE I q (by simp))
  | int j=>obtain ⟨t',rfl⟩:=ry; exact eq_int (aE I q k7)
  | str j=>obtain ⟨t',rfl⟩:=ry; exact PySem.EqMixed.eq_int_str (aE I q (by simp))
  | _=>exact absurd (show false=true from hs) p_
 | str i =>
  obtain ⟨t,rfl⟩:=rx
  cases y with
  | non=>cases ry; exact PySem.EqNone.eq_str_none (aE I q (by simp))
  | bl j=>cases ry; exact PySem.EqMixed.eq_str_bool (aE I q (by simp))
  | int j=>obtain ⟨t',rfl⟩:=ry; exact PySem.EqMixed.eq_str_int (aE I q (by simp))
  | str j=>obtain ⟨t',rfl⟩:=ry; exact eq_str (aE I q k8)
  | _=>exact absurd (show false=true from hs) p_
 | byt i =>
  obtain ⟨t,rfl⟩:=rx
  cases y with
  | byt j=>obtain ⟨t',rfl⟩:=ry; exact PySem.W.eq_bytes (aE I q oX)
  | _=>exact absurd (show false=true from hs) p_
 | _=>cases y <;> exact absurd (show false=true from hs) p_
theorem op_ne:OpR X (EF .NotEq) rNe:=by
 intro pins s σ H x y v u Q I rx ry h
 obtain ⟨hs,q⟩:=h
 cases x with
 | non =>
  cases rx
  cases y with
  | non=>cases ry; exact PySem.EqNone.ne_none_none (aE I q (by simp))
  | bl j=>cases ry; exact PySem.EqNone.ne_none_bool (aE I q (by simp))
  | int j=>obtain ⟨t',rfl⟩:=ry; exact PySem.EqNone.ne_none_int (aE I q (by simp))
  | str j=>obtain ⟨t',rfl⟩:=ry; exact PySem.EqNone.ne_none_str (aE I q (by simp))
  | _=>exact absurd (show false=true from hs) p_
 | bl i =>
  cases rx
  cases y with
  | non=>cases ry; exact PySem.EqNone.ne_bool_none (aE I q (by simp))
  | bl j=>cases ry; exact ne_bool (aE I q (congrArg not oW))
  | str j=>obtain ⟨t',rfl⟩:=ry; exact PySem.EqMixed.ne_bool_str (aE I q (by simp))
  | _=>exact absurd (show false=true from hs) p_
 | int i =>
  obtain ⟨t,rfl⟩:=rx
  cases y with
  | non=>cases ry; exact PySem.EqNone.ne_int_none (aE I q (by simp))
  | int j=>obtain ⟨t',rfl⟩:=ry; exact ne_int (aE I q (congrArg not k7))
  | str j=>obtain ⟨t',rfl⟩:=ry; exact PySem.EqMixed.ne_int_str (aE I q (by simp))
  | _=>exact absurd (show false=true from hs) p_
 | str i =>
  obtain ⟨t,rfl⟩:=rx
  cases y with
  | non=>cases ry; exact PySem.EqNone.ne_str_none (aE I q (by simp))
  | bl j=>cases ry; exact PySem.EqMixed.ne_str_bool (aE I q (by simp))
  | int j=>obtain ⟨t',rfl⟩:=ry; exact PySem.EqMixed.ne_str_int (aE I q (by simp))
  | str j=>obtain ⟨t',rfl⟩:=ry; exact ne_str (aE I q (congrArg not k8))
  | _=>exact absurd (show false=true from hs) p_
 | byt i =>
  obtain ⟨t,rfl⟩:=rx
  cases y with
  | byt j=>obtain ⟨t',rfl⟩:=ry; exact PySem.W.ne_bytes (aE I q (congrArg not oX))
  | _=>exact absurd (show false=true from hs) p_
 | _=>cases y <;> exact absurd (show false=true from hs) p_
theorem op_lt:OpR X (EF .Lt) (rI0 fun i j=>.bl (decide (i < j))):=BM fun _ _ _ _ _ _ _ q=>lt_int q
theorem op_le:OpR X (EF .LtE) (rI0 fun i j=>.bl (decide (i≤j))):=BM fun _ _ _ _ _ _ _ q=>le_int q
theorem BO:OpR X (EF .Gt) (rI0 fun i j=>.bl (decide (j < i))):=BM fun _ _ _ _ _ _ _ q=>gt_int q
theorem oY:OpR X (EF .Lt) (fun x y H Q=>∃ i j,x=.str i∧y=.str j∧Q (.bl (decide (i.cps.toList < j.cps.toList))) H):=by
 intro pins s σ H x y v u Q I rx ry h
 obtain ⟨i,j,rfl,rfl,q⟩:=h
 obtain ⟨t,rfl⟩:=rx
 obtain ⟨t',rfl⟩:=ry
 exact lt_str (aE I q rfl)
theorem op_in_str:OpR X (EF .In) (fun x y H Q=>∃ i j,x=.str i∧y=.str j∧Q (.bl (!(Fv j i 0 j.length 1).isEmpty)) H):=by
 intro pins s σ H x y v u Q I rx ry h
 obtain ⟨i,j,rfl,rfl,q⟩:=h
 obtain ⟨t,rfl⟩:=rx
 obtain ⟨t',rfl⟩:=ry
 exact in_str (aE I q rfl)
theorem yp:OpR X (EF .Is) (fun x y H Q=>y=.non∧Q (.bl (decide (x=.non))) H):=by
 intro pins s σ H x y v u Q I rx ry h
 obtain ⟨rfl,q⟩:=h
 cases ry
 refine is_none_gen (aE I q ?_)
 cases x <;> first
  | (cases rx; rfl)
  | (obtain ⟨t,rfl⟩:=rx; rfl)
theorem OpR.or {f:Value→Value→Sem Value} {r r':R2} (h:OpR X f r) (h':OpR X f r'):OpR X f (fun x y H Q=>r x y H Q∨r' x y H Q):=by
 intro pins s σ H x y v u Q I rx ry q
 rcases q with q | q
 · exact h pins s σ H x y v u Q I rx ry q
 · exact h' pins s σ H x y v u Q I rx ry q
theorem Dj (b:Expr) {op:CmpOp} (h:op≠.In:=by decide) (h2:op≠.NotIn:=by decide):EN op b=false:=by
 have e1:(op == CmpOp.In)=false:=by cases op <;> first | rfl | exact absurd rfl h
 have e2:(op == CmpOp.NotIn)=false:=by cases op <;> first | rfl | exact absurd rfl h2
 cases b <;> simp [EN,e1,e2]
theorem vz {op:CmpOp} {r:R2} (ho:OpR X (EF op) r) (ha:PE X a ta) (hb:PE X b tb) (hm:EN op b=false):PE X (.Compare a [op] [b] pos) (tOp r ta tb):=by
 intro pins s σ H Q I h
 exact wpAny_Compare1 (BJ ha hb I h fun v u s2 x y H2 I2 rx ry q=>ho pins s2 σ H2 x y v u Q I2 rx ry q) hm
def BP (t:TE):TT:=fun σ H Q=>t σ H fun x H'=>∃ k,x=.bl k∧Q k H'
theorem vA {op:CmpOp} {r:R2} (ho:OpR X (EF op) r) (ha:PE X a ta) (hb:PE X b tb) (hm:EN op b=false):PT X (.Compare a [op] [b] pos) (BP (tOp r ta tb)):=by
 intro pins s σ H Q I h
 refine wpAny_isTrue_Compare1 (thn (ha pins s σ H _ I h) fun v s1 ⟨x,H1,I1,r1,q1⟩=>thn (hb pins s1 σ H1 _ I1 q1) fun u s2 ⟨y,H2,I2,r2,q2⟩ =>
  thn (ho pins s2 σ H2 x y v u _ I2 r1 r2 q2) fun c s3 ⟨z,H3,I3,r3,k,e,q3⟩=>?_) hm
 subst e
 cases r3
 exact Go ⟨H3,I3,q3⟩
theorem mq:(sizeLine:Nat) < 2 ^ 63:=by rw [Ht]; decide
theorem op_add_str:OpR X (GN .Add) (fun x y H Q=>∃ i j,x=.str i∧y=.str j∧i.length + j.length≤sizeLine∧Q (.str (i ++ j)) H):=by
 intro pins s σ H x y v u Q I rx ry h
 obtain ⟨i,j,rfl,rfl,hz,q⟩:=h
 obtain ⟨t,rfl⟩:=rx
 obtain ⟨t',rfl⟩:=ry
 exact add_str (fun t' tk=>⟨.str (i ++ j),H,I.tok _,⟨_,rfl⟩,q⟩) hz
theorem gY {x:V} {us:List Value} (r:Vals [x] us):∃ u,us=[u]∧RelV x u:=by
 cases r with
 | cons r1 r2=>cases r2; exact ⟨_,rfl,r1⟩
theorem BQ {x y:V} {us:List Value} (r:Vals [x,y] us):∃ u w',us=[u,w']∧RelV x u∧RelV y w':=by
 cases r with
 | cons r1 r2 =>
  cases r2 with
  | cons r3 r4=>cases r4; exact ⟨_,_,rfl,r1,r3⟩
def D4 (K:ck) (x:V) (H:Hp) (n:Nat):Prop :=
 match x with
 | .str y=>y.length≤sizeLine∧n=y.length
 | .byt y=>y.size≤sizeLine∧n=y.size
 | .ref p=>(∃ xs,SqL K H p xs∧n=xs.length)∨∃ xs,SqT K H p xs∧n=xs.length
 | _=>False
theorem rZ:CallR X (.builtin "len") (fun xs H Q=>∃ x n,xs=[x]∧D4 X.K x H n∧Q (.int n) H):=by
 intro pins s σ H xs us Q I r h
 obtain ⟨x,n,rfl,e,q⟩:=h
 obtain ⟨u,rfl,rx⟩:=gY r
 have hl:=mq
 have hs:sizeLine=16777216:=Ht
 cases x with
 | str y =>
  obtain ⟨t,rfl⟩:=rx
  obtain ⟨hy,e'⟩:y.length≤sizeLine∧n=y.length:=e
  subst e'
  exact len_str (by omega) ⟨.int _,H,I.tok _,⟨_,rfl⟩,q⟩
 | byt y =>
  obtain ⟨t,rfl⟩:=rx
  obtain ⟨hy,e'⟩:y.size≤sizeLine∧n=y.size:=e
  subst e'
  exact PySem.W.len_bytes (by omega) ⟨.int _,H,I.tok _,⟨_,rfl⟩,q⟩
 | ref p =>
  cases rx
  have e':(∃ xs,SqL X.K H p xs∧n=xs.length)∨∃ xs,SqT X.K H p xs∧n=xs.length:=e
  rcases e' with ⟨xs,hx,e'⟩ | ⟨xs,hx,e'⟩
  · subst e'
    obtain ⟨its,r',pl,hz⟩:=I.list hx
    have hlen:=r'.length
    exact Calls.call_len_list pl.isList (by simp only [x_]; omega) ⟨.int xs.length,H,I.tok _,⟨_,by simp only [x_]; rw [hlen]⟩,q⟩
  · subst e'
    obtain ⟨its,r',pl,hz⟩:=I.tuple hx
    have hlen:=r'.length
    exact len_tuple pl (by simp only [x_]; omega) ⟨.int xs.length,H,I.tok _,⟨_,by simp only [x_]; rw [hlen]⟩,q⟩
 | _=>exact (show False from e).elim
end
structure ObjM (h:Heap) (x dx C:Addr) (mA:Str→Option Value):Prop where
 obj:h.get? x=some (GI C dx)
 ns:h.Ns1 dx mA
 ne:dx≠x
theorem oZ {h:Heap} {dx:Addr} {mA:Str→Option Value} (n:h.Ns1 dx mA):∃ od,h.get? dx=some od∧∀ name,K2 name od=some (mA name):=by
 obtain ⟨o,es,ep,ho,hd,hk,_,hm⟩:=n
 refine ⟨o,ho,fun name=>?_⟩
 have e:=hm name
 unfold nsFind findBy at e
 rw [← Array.find?_toList] at e
 unfold K2
 rw [hd]
 dsimp only
 split
 · rename_i y q
   rw [q] at e
   exact congrArg some e
 · rename_i q
   rw [q] at e
   have a:es.toList.any (·.refKey)=false:=by
    rw [List.any_eq_false]
    intro y hy
    obtain ⟨z,t,hkey⟩:=hk y (Fb.mp hy)
    simp [DictEntry.refKey,hkey]
   have a':¬ es.toList.any (·.refKey)=true:=by rw [a]; exact p_
   rw [if_neg a']
   exact congrArg some e
theorem ObjM.look {h:Heap} {x dx C:Addr} {mA:Str→Option Value} (I:ObjM h x dx C mA):∃ od,PySem.W.InstAt h x (GI C dx) C (some od)∧∀ name,K2 name od=some (mA name) :=
 let ⟨od,ho,hl⟩:=oZ I.ns
 ⟨od,⟨I.obj,rfl,rfl,ho⟩,hl⟩
section
variable {prog:Program} {w:w_} {A:u_} {E:Value→c_→Prop} {s:c_} {K:ck} {x dx C f:Addr} {mA:Str→Option Value} {name:Str} {v:Value}
end
section
variable {P:Program} {w:w_} {H H':Hp} {h h':Heap} {a C dx:Addr} {fs fs':List (Str×V)}
theorem vB (hok:HOk P w H h) (e:H a=some (.ins C dx fs)):∃ mA,ObjM h a dx C mA∧(∀ f,RelO (fs.lookup f) (mA f))∧PySem.Within mA (fs.map (·.1))∧fs.length≤1000∧H dx=some (.own a):=by
 obtain ⟨d,z,ne,ob,mA,n,r,q⟩:=(show ObjOk P w H h a (.ins C dx fs) from hok a _ e)
 exact ⟨mA,⟨ob,n,ne⟩,r,q,z,d⟩
end
structure Cls (K:ck) (C:Addr):Prop where
 pg:Mc K C Str.empty=true
 hd:PySem.W.hasDictIn K C=true
 po:PySem.W.plainOver K C=true
 sa:Ij K (.ref C) "__setattr__"=some (some (.builtin "object.__setattr__"))
theorem Cls.get {K:ck} {C:Addr} (c:Cls K C) (f:Str):Mc K C f=true:=c.pg
structure Con (K:ck) (C:Addr) (f:Str) (v:V) (u:Value):Prop where
 at_:Ij K (.ref C) f=some (some u)
 rel:RelV v u
 get:LW K u "__get__"=some none
 cp:PySem.W.copiedNames.contains f=false
structure Et (K:ck) (C:Addr) (m:Str) (f:Addr):Prop where
 at_:Ij K (.ref C) m=some (some (.ref f))
 fn:M5 K (.ref f)=true
 kp:F0 K (.ref f)=true
section
variable {X:Cx} {pins:List (Addr×Obj)} {σ:St} {H:Hp} {s:c_} {a C dx:Addr} {fs:List (Str×V)} {f:Str} {v:V} {A:u_} {E:Value→c_→Prop}
theorem Inv.made (I:Inv X pins σ H s):Inv X pins σ (upd (upd H s.heap.objs.size (.own (s.heap.objs.size + 1))) (s.heap.objs.size + 1) (.ins C s.heap.objs.size []))
 { s with heap:=(s.heap.push F_).push (GI C s.heap.objs.size) }:=by
 have e1:(s.heap.push F_).get? s.heap.objs.size=some F_:=o_ s.heap rfl
 have e2:((s.heap.push F_).push (GI C s.heap.objs.size)).get? (s.heap.objs.size + 1)=some (GI C s.heap.objs.size):=by
  have:=o_ (s.heap.push F_) (o:=GI C s.heap.objs.size) rfl
  rwa [Fw] at this
 have e3:(s.heap.push F_).Ns s.heap.objs.size (fun _=>none):=⟨F_,#[],_,e1,rfl,(fun e he=>absurd he (by simp)),fun _=>rfl⟩
 have I1:=I.laid (a:=s.heap.objs.size) (o:=.own (s.heap.objs.size + 1)) (h':=s.heap.push F_) (t':=s.toks) (fun b u q=>e_ _ q) (j_ _) ⟨_,e1⟩
 refine I1.laid (a:=s.heap.objs.size + 1) (o:=.ins C s.heap.objs.size []) (t':=s.toks) (fun b u q=>e_ _ q) (HB (Fw _ _)) ?_
 have ne:s.heap.objs.size≠s.heap.objs.size + 1:=z_ (Mm _)
 refine ⟨by rw [am ne,ai],EK _,ne,e2,fun _=>none,(Heap.Ns1.of_empty e3).at fun o q=>e_ _ q,fun _=>G8,fun y hy=>absurd rfl hy⟩
end
section
variable {X:Cx} {o e value:Expr} {f:Str} {pos pos' tpos:Pos} {ta tv:TE}
end
section
variable {X:Cx} {pins:List (Addr×Obj)} {σ:St} {H:Hp} {s:c_} {A:u_} {E:Value→c_→Prop} {Q:Value→c_→Prop} {c:Value} {b:Bool}
inductive mr (K:ck) (H:Hp):V→Value→Prop where
 | non:mr K H .non (.type "NoneType")
 | bl (x:Bool):mr K H (.bl x) (.type "bool")
 | int (i:Int):mr K H (.int i) (.type "int")
 | str (x:Str):mr K H (.str x) (.type "str")
 | flt (x:UInt64):mr K H (.flt x) (.type "float")
 | lst {a:Addr} {xs:List V} (e:H a=some (.lst xs)):mr K H (.ref a) (.type "list")
 | frz {a:Addr} {o:Obj} {xs:List V} (e:H a=some (.frz o (.lst xs))):mr K H (.ref a) (.type "list")
 | tup {a:Addr} {xs:List V} (e:H a=some (.tup xs)):mr K H (.ref a) (.type "tuple")
 | dK {a:Addr} {kvs:List (Key×V)} (e:H a=some (.dK kvs)):mr K H (.ref a) (.type "dict")
 | dT {a:Addr} {kvs:List (List Key×V)} (e:H a=some (.dT kvs)):mr K H (.ref a) (.type "dict")
 | ins {a C dx:Addr} {fs:List (Str×V)} (e:H a=some (.ins C dx fs)) (cl:Cls K C) (ha:Ij K (.ref C) "__class__"=some (some (.builtin "object.__class__")))
  (hn:LW K (.builtin "object.__class__") "__get__"=some (some (.builtin "getset_descriptor.__get__"))) (htk:PySem.W.takesIn K (.builtin "object.__class__")=some true)
  (hm:PySem.W.mroIn K C (.type "object")=some true):mr K H (.ref a) (.ref C)
theorem o6 {x:V} {u t:Value} (I:Inv X pins σ H s) (rx:RelV x u) (ty:mr X.K H x t) (e:G2 X.K t c=some b) (h:∀ tk,Q (.bool b) { s with toks:=tk }) :
 l_ (s_ X.prog X.w) A (call (.builtin "isinstance") [u,c]) Q E s:=by
 cases ty with
 | non=>cases (show u=EQ from rx); exact FF PySem.W.kitx_none I.kIn G8 e (fun z=>nomatch z) h
 | bl y=>cases (show u=F1 y from rx); exact FF PySem.W.kitx_bool I.kIn G8 e (fun z=>nomatch z) h
 | int i=>obtain ⟨t,q⟩:=(show ∃ t,u=Lj i t from rx); cases q; exact FF PySem.W.kitx_int I.kIn G8 e (fun z=>nomatch z) h
 | str y=>obtain ⟨t,q⟩:=(show ∃ t,u=HZ y t from rx); cases q; exact FF PySem.W.kitx_str I.kIn G8 e (fun z=>nomatch z) h
 | flt y=>obtain ⟨t,q⟩:=(show ∃ t,u=Value.float y t from rx); cases q; exact FF PySem.W.kitx_float I.kIn G8 e (fun z=>nomatch z) h
 | @lst a xs ea =>
  cases (show u=r_ a from rx)
  obtain ⟨_,_,n,_,h1⟩:=(show ObjOk X.prog X.w H s.heap a (.lst xs) from I.hok a _ ea)
  exact FF LY I.kIn ⟨_,h1,rfl⟩ e (fun z=>nomatch z) h
 | @frz a ob xs ea =>
  cases (show u=r_ a from rx)
  obtain ⟨_,_,_,n,_,h1⟩:=(show ObjOk X.prog X.w H s.heap a (.frz ob (.lst xs)) from I.hok a _ ea)
  exact FF LY I.kIn ⟨_,h1,rfl⟩ e (fun z=>nomatch z) h
 | @tup a xs ea =>
  cases (show u=r_ a from rx)
  obtain ⟨_,_,_,p⟩:=(show ObjOk X.prog X.w H s.heap a (.tup xs) from I.hok a _ ea)
  obtain ⟨o,h1,h2,_⟩:=p
  exact FF PySem.W.kitx_tuple I.kIn ⟨o,h1,h2⟩ e (fun z=>nomatch z) h
 | @dK a kvs ea =>
  cases (show u=r_ a from rx)
  obtain ⟨_,_,vs,_,p⟩:=(show ObjOk X.prog X.w H s.heap a (.dK kvs) from I.hok a _ ea)
  obtain ⟨o,es,ep,h1,h2,_⟩:=p
  exact FF LZ I.kIn ⟨o,h1,h2.1⟩ e (fun z=>nomatch z) h
 | @dT a kvs ea =>
  cases (show u=r_ a from rx)
  obtain ⟨_,_,xs,_,o,es,ep,h1,h2,_⟩:=(show ObjOk X.prog X.w H s.heap a (.dT kvs) from I.hok a _ ea)
  exact FF LZ I.kIn ⟨o,h1,h2.1⟩ e (fun z=>nomatch z) h
 | @ins a C dx fs ea cl ha hn htk hm =>
  cases (show u=r_ a from rx)
  obtain ⟨mA,O,_⟩:=vB I.hok ea
  obtain ⟨od,J,_⟩:=O.look
  exact FF (PySem.W.kitx_own (cl.get _) cl.hd ha hn htk hm) I.kIn J e (fun z=>nomatch z) h
end
structure Room (k:Nat) (A:u_):Prop where
 hd:A.handled=none
 dp:A.depth + 3 * k + 5 < recursionLimit
 un:A.units + 16 * k + 200 < cLine
theorem Room.mono {j k:Nat} {A:u_} (r:Room k A) (h:j≤k):Room j A:=⟨r.hd,by have:=r.dp; omega,by have:=r.un; omega⟩
theorem Room.deeper {k:Nat} {A:u_} (r:Room (k + 1) A) (env:Env):Room k (A.deeper env) :=
 ⟨r.hd,by have:=r.dp; show A.depth + 1 + 3 * k + 5 < _; omega,by have:=r.un; show A.units + 3 + 16 * k + 200 < _; omega⟩
theorem Room.in1 {k:Nat} {A:u_} (r:Room (k + 1) A):Room k A.in1 :=
 ⟨r.hd,by have:=r.dp; show A.depth + 3 * k + 5 < _; omega,by have:=r.un; show A.units + 1 + 16 * k + 200 < _; omega⟩
theorem Room.depth {k:Nat} {A:u_} (r:Room k A):A.depth < recursionLimit:=by have:=r.dp; omega
theorem Room.units {k:Nat} {A:u_} (r:Room k A):A.units + 64 < cLine:=by have:=r.un; omega
theorem Room.units0 {k:Nat} {A:u_} (r:Room k A):A.units < cLine:=by have:=r.un; omega
def D6:TA:=fun _ H Q=>Q [] H
def BR (ta:TE) (tr:TA):TA:=fun σ H Q=>ta σ H fun x H1=>tr σ H1 fun xs H2=>Q (x :: xs) H2
section
variable {X:Cx} {e:Expr} {es:List Expr} {te:TE} {t:TA} {pos:Pos}
theorem o7:PA X [] D6:=fun _ _ _ _ H Q I h=>Im ⟨[],H,I,.nil,h⟩
theorem fR (ha:PE X e te) (hr:PA X es t) (hs:f_ (e :: es) X.env=(false,eval e X.env) :: f_ es X.env:=by rfl):PA X (e :: es) (BR te t):=by
 intro pos pins s σ H Q I h
 rw [hs]
 show l_ _ _ (spliced ((false,eval e X.env) :: EY pos (f_ es X.env))) _ _ s
 refine Hb (thn (ha pins s σ H _ I h) fun u s1 ⟨x,H1,I1,r1,q1⟩=>?_)
 exact thn (hr pos pins s1 σ H1 _ I1 q1) fun us s2 ⟨xs,H2,I2,r2,q2⟩=>⟨x :: xs,H2,I2,.cons r1 r2,q2⟩
def D7 (t:TA):TE:=fun σ H Q=>t σ H fun xs H1=>xs.length≤sizeLine∧∀ p,H1 p=none→Q (.ref p) (upd H1 p (.tup xs))
def D8 (t:TA):TE:=fun σ H Q=>t σ H fun xs H1=>xs.length≤sizeLine∧∀ p,H1 p=none→Q (.ref p) (upd H1 p (.lst xs))
theorem yq {x1} (h:PA X es t):PE X (.Tuple es x1 pos) (D7 t):=by
 intro pins s σ H Q I hq
 refine wpAny_Tuple_spliced (thn (h pos pins s σ H _ I hq) fun us s1 ⟨xs,H1,I1,r,z,q⟩=>⟨by rw [← r.length]; exact z,?_⟩)
 have hf:H1 s1.heap.objs.size=none:=I1.hok.fresh (j_ _)
 refine ⟨.ref s1.heap.objs.size,upd H1 s1.heap.objs.size (.tup xs),I1.laid (t':=s1.toks) (fun b u e=>e_ _ e) (j_ _) ?_,rfl,q _ hf⟩
 exact ⟨z,us,r,⟨_,o_ _ rfl,rfl,_,rfl⟩⟩
theorem uB (h:PA X es t):PE X (.List es pos) (D8 t):=by
 intro pins s σ H Q I hq
 refine wpAny_List_spliced (thn (h pos pins s σ H _ I hq) fun us s1 ⟨xs,H1,I1,r,z,q⟩=>⟨by rw [← r.length]; exact z,?_⟩)
 have hf:H1 s1.heap.objs.size=none:=I1.hok.fresh (j_ _)
 refine ⟨.ref s1.heap.objs.size,upd H1 s1.heap.objs.size (.lst xs),I1.laid (t':=s1.toks) (fun b u e=>e_ _ e) (j_ _) ?_,rfl,q _ hf⟩
 exact ⟨z,us,0,r,o_ _ rfl⟩
end
abbrev Sp:=List V→Hp→VK→XK→Prop
abbrev CXT:=List Env→Hp→c_→XK→Value→c_→Prop
structure Env0 (P:Program) (w:w_) (K:ck) (mg:Str→Option Value) (base:Heap) (A:u_) (outer:List Env) (s:c_) (H:Hp):Prop where
 frames:A.frames=some outer
 mod:Mod K mg base
 bs:∀ b o,base.get? b=some o→s.heap.get? b=some o∧H b=none
 bsz:base.objs.size≤s.heap.objs.size
 funs:s.heap.FunFrames base outer
 frf:∀ b∈frs outer,H b=none
 hok:HOk P w H s.heap
 bare:Jf s.gens
def CE (outer:List Env) (P:Program) (w:w_) (H:Hp) (s:c_) (Q:VK) (u:Value) (s':c_):Prop :=
 ∃ v H',s'.os=s.os∧Jf s'.gens∧Un (frs outer) [] H H' s.heap s'.heap∧HOk P w H' s'.heap∧RelV v u∧Q v H'
def CR (CX:CXT) (outer:List Env) (P:Program) (w:w_) (H:Hp) (s:c_) (Q:VK) (E:XK) (r:Mh) (s':c_):Prop :=
 match r with
 | .ok (.ret u)=>CE outer P w H s Q u s'
 | .ok _=>False
 | .error e=>CX outer H s E e s'
structure FnOk (P:Program) (w:w_) (K:ck) (mg:Str→Option Value) (base:Heap) (CX:CXT) (k:Nat) (f:Addr) (fd:FL) (ps:List Str) (sp:Sp):Prop where
 len:∀ vs H Q E,sp vs H Q E→vs.length=ps.length
 run:∀ (A:u_) (outer:List Env) (s:c_) (H:Hp) (args:Args) (us:List Value) (vs:List V) (Q:VK) (E:XK),Room k A→Env0 P w K mg base A outer s H→KB s fd args (ps.zip us)→Vals vs us→sp vs H Q E →
  Jd (s_ P w) A (.call (.ref f) args) (CR CX outer P w H s Q E) s
theorem FnOk.mono {P:Program} {w:w_} {K:ck} {mg:Str→Option Value} {base:Heap} {CX:CXT} {j k:Nat} {f:Addr} {fd:FL} {ps:List Str} {sp:Sp} (F:FnOk P w K mg base CX j f fd ps sp) (h:j≤k) :
 FnOk P w K mg base CX k f fd ps sp:=⟨F.len,fun A outer s H args us vs Q E hr=>F.run A outer s H args us vs Q E (hr.mono h)⟩
theorem FnOk.imp {P:Program} {w:w_} {K:ck} {mg:Str→Option Value} {base:Heap} {CX:CXT} {k:Nat} {f:Addr} {fd:FL} {ps:List Str} {sp sp':Sp} (F:FnOk P w K mg base CX k f fd ps sp)
 (h:∀ vs H Q E,sp' vs H Q E→sp vs H Q E):FnOk P w K mg base CX k f fd ps sp' :=
 ⟨fun vs H Q E q=>F.len vs H Q E (h _ _ _ _ q),fun A outer s H args us vs Q E hr he hb hv hs=>F.run A outer s H args us vs Q E hr he hb hv (h _ _ _ _ hs)⟩
theorem Env0.in1 {P:Program} {w:w_} {K:ck} {mg:Str→Option Value} {base:Heap} {A:u_} {outer:List Env} {s:c_} {H:Hp} (e:Env0 P w K mg base A outer s H) :
 Env0 P w K mg base A.in1 outer s H:=⟨e.frames,e.mod,e.bs,e.bsz,e.funs,e.frf,e.hok,e.bare⟩
section
variable {X:Cx} {pins:List (Addr×Obj)} {σ:St} {H:Hp} {s s':c_}
theorem Inv.env0 (I:Inv X pins σ H s):Env0 X.prog X.w X.K X.mg X.base X.A X.stack s H :=
 ⟨I.ok.frames,I.ok.mod,I.bs,EM I.ok.bsz I.sz,I.stack,I.stkFree,I.hok,I.bare⟩
theorem Inv.after {Q:VK} {u:Value} (I:Inv X pins σ H s) (h:CE X.stack X.prog X.w H s Q u s'):EP X pins σ Q u s':=by
 obtain ⟨v,H',os,bare,un,hok,r,q⟩:=h
 obtain ⟨hh,g,d,t,os'⟩:=s'
 obtain rfl:os'=s.os:=os
 exact ⟨v,H',I.call (h':=hh) (g':=g) (d':=d) (t':=t) (ch:=[]) un hok bare (fun b z=>absurd z (by simp)),r,q⟩
end
def BS (sp:Sp) (dvs:List V) (E:XK) (t:TA):TE:=fun σ H Q=>t σ H fun vs H1=>sp (vs ++ dvs) H1 Q E
def Binds (K:ck) (fd:FL) (ps:List Str) (ds:List Value):Prop :=
 ∀ (s:c_) (us:List Value),K.In s.heap→(us ++ ds).length=ps.length→KB s fd ⟨us,[]⟩ (ps.zip (us ++ ds))
theorem Binds.all {K:ck} {fd:FL} {ps:List Str} (h:∀ us:List Value,us.length=ps.length→bindArgs fd ⟨us,[]⟩=pure (ps.zip us)):Binds K fd ps []:=fun s us _ hl=>by
 rw [Ja] at hl ⊢
 exact .of_eq (h us hl)
def o8 (CX:CXT) (X:Cx) (E:XK):Prop:=∀ (pins:List (Addr×Obj)) (σ:St) (H:Hp) (s:c_) (e:Value) (s':c_),Inv X pins σ H s→CX X.stack H s E e s'→X.xe e s'
section
variable {X:Cx} {CX:CXT} {k:Nat} {f C:Addr} {fd:FL} {ps:List Str} {sp:Sp} {dvs:List V} {ds:List Value} {E:XK} {x m:Str} {p pos apos:Pos} {e o:Expr} {es:List Expr} {ta:TE} {t:TA}
theorem yr {pins:List (Addr×Obj)} {σ:St} {H:Hp} {s:c_} {Q:VK} {us:List Value} {vs:List V} (F:FnOk X.prog X.w X.K X.mg X.base CX k f fd ps sp) (hr:Room k X.A) (hb:Binds X.K fd ps ds) (hd:Vals dvs ds) (hx:o8 CX X E)
 (I:Inv X pins σ H s) (r:Vals vs us) (h:sp (vs ++ dvs) H Q E):l_ (s_ X.prog X.w) X.A (call (.ref f) us) (EP X pins σ Q) X.xe s:=by
 have r2:Vals (vs ++ dvs) (us ++ ds):=r.append hd
 have hl:(us ++ ds).length=ps.length:=by rw [← r2.length]; exact F.len _ _ _ _ h
 refine wpAny_call (Ii (F.run X.A X.stack s H ⟨us,[]⟩ (us ++ ds) (vs ++ dvs) Q E hr I.env0 (hb s us I.kIn hl) r2 h) fun r s' hq=>?_)
 cases r with
 | error e=>exact hx pins σ H s e s' I hq
 | ok fl =>
  cases fl with
  | ret u=>exact I.after hq
  | next=>exact Fu hq
  | brk=>exact Fu hq
  | cont=>exact Fu hq
theorem o9 (F:FnOk X.prog X.w X.K X.mg X.base CX k f fd ps sp) (hr:Room k X.A) (hg:Gl X x) (hm:X.mg x=some (.ref f)) (hk:F0 X.K (.ref f)=true) (hb:Binds X.K fd ps ds) (hd:Vals dvs ds) (hx:o8 CX X E)
 (ha:PA X (e :: es) t) (hdb:(x == ("__debug__":Str))=false:=by decide) (he:f_ (e :: es) X.env=(false,eval e X.env) :: f_ es X.env:=by rfl) (hpl:(EY pos (f_ es X.env)).any (·.1)=false:=by rfl) :
 PE X (.Call (.Name x p) (e :: es) [] pos) (BS sp dvs E t):=by
 intro pins s σ H Q I h
 refine Gx (kY I hg hm ?_ hdb)
 refine PySem.W.callWith_K (h₀:=X.base) I.ok.mod.kin hk (thn (ha pos pins s σ H _ I h) fun us s1 ⟨vs,H1,I1,r,q⟩=>⟨I1.kIn,?_⟩) he hpl
 exact yr F hr hb hd hx I1 r q
structure Mk (K:ck) (C f:Addr):Prop where
 makes:PySem.W.makesIn K C=true
 init:Ij K (.ref C) "__init__"=some (some (.ref f))
 fn:M5 K (.ref f)=true
 kp:F0 K (.ref C)=true
end
section
variable {X:Cx} {CX:CXT} {k:Nat} {f C:Addr} {fd:FL} {ps ks:List Str} {sp:Sp} {E:XK} {x m:Str} {p pos apos kpos:Pos} {e o:Expr} {es:List Expr} {kws:List GY} {te ta:TE} {t tk:TA} {nm:Option Str}
structure Dk (K:ck) (fd:FL) (ps ks:List Str) (g:List Value→List Value→List Value) (gV:List V→List V→List V):Prop where
 to:∀ (s:c_) (us ws:List Value),K.In s.heap→(g us ws).length=ps.length→KB s fd ⟨us,ks.zip ws⟩ (ps.zip (g us ws))
 rel:∀ {vs:List V} {us:List Value} {zs:List V} {ws:List Value},Vals vs us→Vals zs ws→Vals (gV vs zs) (g us ws)
variable {g:List Value→List Value→List Value} {gV:List V→List V→List V}
end
structure eG (N P:List Str) (sc:Scope):Prop where
 kind:sc.kind=.function
 co:sc.isCoroutine=false
 gen:sc.isGenerator=false
 nd:N.Nodup
 pre:N.take P.length=P
 par:∀ x∈P,sc.names.lookup x=some .local∨sc.names.lookup x=some .cell
 nofree:∀ y∈sc.names,y.2≠.free
theorem jF {kindOf:Str→Option G3} {x:Str}:∀ {binds:List (Str×Value)} {m:Str→Option Value},(∀ v,(x,v) ∉ binds)→MK kindOf binds m x=m x
 | [],_,_=>rfl
 | (n,v) :: r,m,h=>by
  unfold MK
  rw [jF fun w hw=>h w (k_ _ hw)]
  split
  · have:x≠n:=by rintro rfl; exact h v h_
    simp [this]
  · rfl
theorem jG {kindOf:Str→Option G3} {x:Str}:∀ {binds:List (Str×Value)} {m:Str→Option Value},(∀ v,(x,v) ∉ binds)→ML kindOf binds m x=m x
 | [],_,_=>rfl
 | (n,v) :: r,m,h=>by
  unfold ML
  rw [jG fun w hw=>h w (k_ _ hw)]
  split
  · rfl
  · have:x≠n:=by rintro rfl; exact h v h_
    simp [this]
theorem jH {kindOf:Str→Option G3} {x:Str} {v:Value}:∀ {P:List Str} {vs:List Value} {i:Nat} {m:Str→Option Value},P.Nodup→P[i]?=some x→vs[i]?=some v→kindOf x=some .local →
 MK kindOf (P.zip vs) m x=some v
 | [],_,_,_,_,h,_,_=>by simp at h
 | _ :: _,[],_,_,_,_,h,_=>by simp at h
 | p :: P,w :: vs,0,m,nd,h1,h2,hk=>by
  simp at h1 h2; subst h1; subst h2
  show MK kindOf ((p,w) :: P.zip vs) m p=_
  unfold MK
  rw [jF fun v hv=>(Gf.mp nd).1 (KP hv).1,if_pos hk]
  simp
 | p :: P,w :: vs,i + 1,m,nd,h1,h2,hk=>by
  show MK kindOf ((p,w) :: P.zip vs) m x=_
  unfold MK
  exact jH (i:=i) (Gf.mp nd).2 (by simpa using h1) (by simpa using h2) hk
theorem jI {kindOf:Str→Option G3} {x:Str} {v:Value}:∀ {P:List Str} {vs:List Value} {i:Nat} {m:Str→Option Value},P.Nodup→P[i]?=some x→vs[i]?=some v→kindOf x≠some .local →
 ML kindOf (P.zip vs) m x=some v
 | [],_,_,_,_,h,_,_=>by simp at h
 | _ :: _,[],_,_,_,_,h,_=>by simp at h
 | p :: P,w :: vs,0,m,nd,h1,h2,hk=>by
  simp at h1 h2; subst h1; subst h2
  show ML kindOf ((p,w) :: P.zip vs) m p=_
  unfold ML
  rw [jG fun v hv=>(Gf.mp nd).1 (KP hv).1,if_neg hk]
  simp
 | p :: P,w :: vs,i + 1,m,nd,h1,h2,hk=>by
  show ML kindOf ((p,w) :: P.zip vs) m x=_
  unfold ML
  exact jI (i:=i) (Gf.mp nd).2 (by simpa using h1) (by simpa using h2) hk
def start (N:List Str) (vs:List V):St:=vs.map some ++ Gm (N.length - vs.length) none
def r8 (CX:CXT) (P:Program) (w:w_) (K:ck) (mg:Str→Option Value) (base:Heap) (N:List Str) (qual:Str) (scope:Scope) (f:Addr) (cd:Value) (A:u_) (outer:List Env) (s:c_) (H:Hp) (E:XK):Cx where
 prog:=P
 w:=w
 K:=K
 mg:=mg
 base:=base
 A:=A.deeper (JA qual scope s.heap.objs.size f cd)
 N:=N
 s₀:=s
 H₀:=H
 env:=JA qual scope s.heap.objs.size f cd
 outer:=outer
 stack:=JA qual scope s.heap.objs.size f cd :: outer
 ex:=[]
 calm:=true
 fn:=fun _=>true
 pn:=[]
 xe:=fun e s'=>l_ (s_ P w) (A.deeper (JA qual scope s.heap.objs.size f cd)) (leaving (JA qual scope s.heap.objs.size f cd) e) (fun _ s''=>CX outer H s E e s'') (fun e' s''=>CX outer H s E e' s'') s'
theorem mv {sc:Scope} {n:Nat} {x:Str} (h:sc.names.lookup x=some .cell):∃ c,(EX n sc.names []).lookup x=some c:=by
 have q:=Ks sc.names n [] (.inl h)
 exact GW.mp q
theorem pb {CX:CXT} {P:Program} {w:w_} {K:ck} {mg:Str→Option Value} {base:Heap} {N ps:List Str} {qual:Str} {scope:Scope} {f:Addr} {cd:Value} {A:u_} {outer:List Env} {s s1:c_} {H:Hp} {E:XK} {us:List Value} {vs:List V}
 (S:eG N ps scope) (hd:A.handled=none) (e0:Env0 P w K mg base A outer s H) (hl:vs.length=ps.length) (r:Vals vs us)
 (x:InCallC s s.heap.objs.size (MK (JA qual scope s.heap.objs.size f cd).kindOf (ps.zip us) fun _=>none) (EX (s.heap.objs.size + 1) scope.names []) (ML (JA qual scope s.heap.objs.size f cd).kindOf (ps.zip us) fun _=>none) s1) :
 Inv (r8 CX P w K mg base N qual scope f cd A outer s H E) [] (start N vs) H s1:=by
 have hpl:ps.length≤N.length:=by have:=congrArg Mx S.pre; rw [IN] at this; omega
 obtain ⟨h1,tk,rfl,hk⟩:=x.done
 have noA:∀ b:Addr,b ∉ (r8 CX P w K mg base N qual scope f cd A outer s H E).ex:=fun b z=>absurd (show b∈([]:List Addr) from z) (by simp)
 refine ⟨⟨e0.mod,S.kind,rfl,rfl,j_ _,fun y z c h1 h2=>?_,fun y hy=>?_,fun y c _ h=>?_,fun _=>hd,Around.frames_deeper e0.frames,.inr ⟨rfl,rfl⟩,fun b z=>absurd z (noA b),e0.bs,e0.bsz,fun b _ _=>noA b,fun b z=>absurd z (noA b),e0.funs,e0.frf⟩,
  rfl,e0.bare,Un.kept hk,⟨_,x.toInCall.ns,fun i y v h1 h2 h3=>?_⟩,fun y c h=>⟨_,x.cell y c h⟩,e0.hok.fresh (j_ _),fun y c h=>?_,fun p hp=>absurd (show p∈([]:List (Addr×Obj)) from hp) (by simp),e0.hok.kept hk,?_⟩
 · exact name_of_addr x.apart (GX h1) (GX h2)
 · have hy:scope.names.lookup y=some .cell∨scope.names.lookup y=some .free:=hy
   rcases hy with hy | hy
   · exact mv hy
   · exact absurd rfl (S.nofree _ (GX hy))
 · exact Iu (x.above y c (GX h))
 · have hi:i < vs.length:=by
    unfold start at h2
    by_cases hi:i < vs.length
    · exact hi
    · rw [Fz (by simpa using hi)] at h2
      rw [Ic] at h2
      split at h2 <;> cases h2
   have ha:vs[i]?=some v:=by
    unfold start at h2
    rw [Gg (by simpa using hi),Ex] at h2
    cases e:vs[i]? with
    | none=>rw [e] at h2; cases h2
    | some a=>rw [e] at h2; cases h2; rfl
   obtain ⟨u,hu,rv⟩:=r.get ha
   have hp:ps[i]?=some y:=by
    rw [← S.pre,List.getElem?_take_of_lt (by omega)]; exact h1
   have ndP:ps.Nodup:=by rw [← S.pre]; exact S.nd.sublist (L7 _ _)
   refine ⟨u,rv,?_⟩
   rcases S.par y (Fy hp) with k | k
   · exact .inl ⟨k,jH ndP hp hu k⟩
   · obtain ⟨c,e⟩:=mv (n:=s.heap.objs.size + 1) k
     refine .inr ⟨.inl k,c,e,?_⟩
     have q:=x.cell y c e
     rw [jI ndP hp hu (by show scope.names.lookup y≠_; rw [k]; decide)] at q
     exact q
 · exact e0.hok.fresh (Iu (x.above y c (GX h)))
 · unfold start
   show _=N.length
   rw [Fc,Ey,Hq]
   omega
theorem BU {CX:CXT} {P:Program} {w:w_} {K:ck} {mg:Str→Option Value} {base:Heap} {k:Nat} {f:Addr} {name qual:Str} {params:Arguments} {body:List Stmt} {scope:Scope} {dV kV doc pm cdv ct oc:Value} {an od:Option Addr}
 {osl:Array (Option Value)} {N ps:List Str} {sp:Sp} (lk:K.lookup f=some ⟨oc,od,.func (G_ name qual params body scope dV kV doc pm an cdv ct),osl⟩) (hcd:Jn K cdv qual=true) (S:eG N ps scope)
 (len:∀ vs H Q E,sp vs H Q E→vs.length=ps.length)
 (hbody:∀ (A:u_) (outer:List Env) (s:c_) (H:Hp) (vs:List V) (Q:VK) (E:XK),Room k (A.deeper (JA qual scope s.heap.objs.size f cdv))→sp vs H Q E →
   ∃ t,PSs (r8 CX P w K mg base N qual scope f cdv A outer s H E) body t∧t { nx:=fun _ H'=>Q .non H',rt:=Q } (start N vs) H) :
 FnOk P w K mg base CX (k + 1) f (G_ name qual params body scope dV kV doc pm an cdv ct) ps sp:=by
 refine ⟨len,fun A outer s H args us vs Q E hr e0 hb r hsp=>?_⟩
 have hl:=len _ _ _ _ hsp
 have KX:K.In s.heap:=e0.mod.kin.keeps fun b o e=>(e0.bs b o e).1
 have lim:s.heap.NoLimit:=e0.mod.nolimit.keeps fun b o e=>(e0.bs b o e).1
 have hkind:∀ y∈ps.zip us,scope.names.lookup y.1=some .local∨(scope.names.lookup y.1=some .cell∧((EX (s.heap.objs.size + 1) scope.names []).lookup y.1).isSome=true):=fun ⟨n,v⟩ hy=>by
  rcases S.par n (KP hy).1 with q | q
  · exact .inl q
  · exact .inr ⟨q,Ks _ _ _ (.inl q)⟩
 refine codeAny_call_function hr.depth (KX _ _ lk) rfl S.co S.gen rfl (PySem.W.codeRec_of KX hcd) (hb _ _ _ _ ?_)
 refine wpAny_newFunctionEnv_cells S.kind hkind fun env he s1 x=>?_
 subst he
 refine ⟨lim.keeps x.toInCall.keep,codeAny_func ?_⟩
 obtain ⟨t,ht,hq⟩:=hbody A outer s H vs Q E (hr.deeper _) hsp
 have I:Inv (r8 CX P w K mg base N qual scope f cdv A outer s H E) [] (start N vs) H s1:=pb S hr.hd e0 hl r x
 refine EO (ht [] s1 (start N vs) H _ I hq) (fun fl s' hs=>?_) fun e s' hs=>hs
 have fin:∀ {σ':St} {H':Hp} {v:V} {u:Value},Inv (r8 CX P w K mg base N qual scope f cdv A outer s H E) [] σ' H' s'→RelV v u→Q v H'→CE outer P w H s Q u s' :=
  fun {σ' H' v u} J rv q=>⟨v,H',J.os,J.bare,J.base,J.hok,rv,q⟩
 cases fl with
 | ret u =>
  obtain ⟨v,σ',H',J,rv,q⟩:=hs
  exact fin J rv q
 | next =>
  obtain ⟨σ',H',J,q⟩:=hs
  exact fin (v:=V.non) (u:=EQ) J rfl q
 | brk =>
  obtain ⟨_,_,_,q⟩:=hs
  exact Fu q
 | cont =>
  obtain ⟨_,_,_,q⟩:=hs
  exact Fu q
section
variable {X:Cx} {x:Str} {p pos:Pos} {e:Expr} {es:List Expr} {t:TA} {id T:String} {r:List V→Hp→VK→Prop}
def tCB (r:List V→Hp→VK→Prop) (t:TA):TE:=fun σ H Q=>t σ H fun vs H1=>r vs H1 Q
theorem fE (hc:CallR X (.builtin id) r) (hg:Gl X x) (hm:X.mg x=none) (hv:F9 x=some (.builtin id)) (ha:PA X (e :: es) t) (hn:x≠"__name__":=by decide) (hdb:(x == ("__debug__":Str))=false:=by decide)
 (he:f_ (e :: es) X.env=(false,eval e X.env) :: f_ es X.env:=by rfl) (hpl:(EY pos (f_ es X.env)).any (·.1)=false:=by rfl):PE X (.Call (.Name x p) (e :: es) [] pos) (tCB r t):=by
 intro pins s σ H Q I h
 refine Gx (dP I hg hm hv ?_ hn hdb)
 exact IM (thn (ha pos pins s σ H _ I h) fun us s1 ⟨vs,H1,I1,r1,q1⟩=>hc pins s1 σ H1 vs us Q I1 r1 q1) he hpl
theorem pc (hc:CallR X (.type T) r) (hg:Gl X x) (hm:X.mg x=none) (hv:F9 x=some (.type T)) (ha:PA X (e :: es) t) (hn:x≠"__name__":=by decide) (hdb:(x == ("__debug__":Str))=false:=by decide)
 (he:f_ (e :: es) X.env=(false,eval e X.env) :: f_ es X.env:=by rfl) (hpl:(EY pos (f_ es X.env)).any (·.1)=false:=by rfl):PE X (.Call (.Name x p) (e :: es) [] pos) (tCB r t):=by
 intro pins s σ H Q I h
 refine Gx (dP I hg hm hv ?_ hn hdb)
 exact F5 (thn (ha pos pins s σ H _ I h) fun us s1 ⟨vs,H1,I1,r1,q1⟩=>hc pins s1 σ H1 vs us Q I1 r1 q1) he hpl
end
end L2
namespace HT
open PySem PyProof.Rows
section
open PySem.SeqAt
open PySem.AutoSeq1 (wpAny_loadPart')
open PySem.MeetsSeq PySem.MeetsSeq2 PySem.MeetsSeq3
end
section
variable {prog:Program} {w:w_} {A:u_} {E:Value→c_→Prop} {s:c_}
theorem cat_tup {t b:Addr} {vs ws:List Value} {Q:Value→c_→Prop} (ht:MT s.heap t vs.toArray) (hb:MT s.heap b ws.toArray) (hv:vs≠[])
 (h1:ws=[]→Q (.ref t) s) (h2:ws≠[]→Q (.ref s.heap.objs.size) { s with heap:=s.heap.push { cls:=.type "tuple",data:=.seq (vs ++ ws).toArray } })
 (hsz:vs.length + ws.length≤sizeLine):l_ (s_ prog w) A (GN .Add (.ref t) (.ref b)) Q E s:=by
 obtain ⟨⟨cls,dd,data,sl⟩,ho,hc,n,hd⟩:=id ht
 obtain ⟨⟨cls2,dd2,data2,sl2⟩,ho2,hc2,n2,hd2⟩:=id hb
 simp only at hc hd hc2 hd2
 subst hc hd hc2 hd2
 have e:vs.toArray ++ ws.toArray=(vs ++ ws).toArray:=by simp
 by_cases hw:ws=[]
 · exact LU ⟨_,ho,rfl⟩ ⟨_,ho2,rfl⟩ J6 Lw Il Ib (HL _ _)
    (tuple_addW1 t b vs.toArray ws.toArray n n2 dd dd2 sl sl2 (by simpa using hv) (by simp [hw])) ⟨ho,ho2,h1 hw⟩
 · refine LU ⟨_,ho,rfl⟩ ⟨_,ho2,rfl⟩ J6 Lw Il Ib (HL _ _)
    (tuple_addW2 t b vs.toArray ws.toArray n n2 dd dd2 sl sl2 (by simpa using hv) (by simpa using hw) (by rw [x_,x_]; exact hsz)) ⟨ho,ho2,?_⟩
   rw [e]
   exact h2 hw
def sIx (n d:Nat):Option Int→Nat
 | none=>d
 | some v=>if v < 0 then (v + (n:Int)).toNat else min v.toNat n
theorem yt (n d:Nat) (hd:d≤n) (o:Option Int):sIx n d o≤n:=by
 cases o with
 | none=>exact hd
 | some v =>
  show (if v < 0 then (v + (n:Int)).toNat else min v.toNat n)≤n
  by_cases hv:v < 0
  · rw [if_pos hv]; omega
  · rw [if_neg hv]; exact Ke _ _
theorem pe (v:Int) (n d:Nat):(if v < 0 then max (v + (n:Int)) 0 else min v (n:Int))=((sIx n d (some v):Nat):Int):=by
 show (if v < 0 then max (v + (n:Int)) 0 else min v (n:Int))=(((if v < 0 then (v + (n:Int)).toNat else min v.toNat n):Nat):Int)
 by_cases hv:v < 0
 · simp only [if_pos hv]; omega
 · simp only [if_neg hv]; omega
theorem nF (lo hi:Option Int) (n:Nat):HE lo hi 1 (n:Int)=(((sIx n 0 lo:Nat):Int),((sIx n n hi:Nat):Int)):=by
 have h1:¬ ((1:Int) < 0):=by omega
 unfold HE
 simp only [h1,if_false]
 refine Prod.ext ?_ ?_
 · cases lo with
   | none=>rfl
   | some v=>exact pe v n 0
 · cases hi with
   | none=>rfl
   | some v=>exact pe v n n
theorem nG (i j:Nat):GG (i:Int) (j:Int) 1=j - i:=by
 unfold GG
 have h1:(1:Int) > 0:=by omega
 simp only [h1,if_true,Int.ediv_one]
 split <;> omega
theorem hZ {v:Value} {o:Option Int} {Q:Option Int→c_→Prop} (p:Kw v o) (h:Q o s):l_ (s_ prog w) A (Builtin.Slice.slicePartIndex v) Q E s:=by
 cases p with
 | none=>exact slicePart_none h
 | int i t=>exact slicePart_int h
theorem sliceApplied_gen {sl:Addr} {vl vu:Value} {lo hi:Option Int} {n:Nat} {Q:Int×Int×Nat→c_→Prop} (hs:s.heap.IsSliceOf sl vl vu .none) (pl:Kw vl lo) (pu:Kw vu hi)
 (h:Q (((sIx n 0 lo:Nat):Int),1,sIx n n hi - sIx n 0 lo) s):l_ (s_ prog w) A (Jz (.ref sl) (pure (n:Int))) Q E s:=by
 obtain ⟨os,hos,hcs,hds⟩:=id hs
 unfold Jz Builtin.Slice.sliceFields
 refine a_ (a_ (F3 hos hds (x:=vl) rfl (a_ (F3 hos hds (x:=vu) rfl (a_ (F3 hos hds (x:=.none) rfl (d_ ?_)))))))
 refine a_ (slicePart_none ?_)
 show l_ _ _ (if ((1:Int) == 0)=true then _ else _) _ _ s
 rw [if_neg (by decide)]
 refine a_ (hZ pl (a_ (hZ pu (a_ (d_ ?_)))))
 show l_ _ _ (match HE lo hi 1 (n:Int) with | (lo,hi)=>pure (lo,(1:Int),GG lo hi 1)) _ _ s
 rw [nF lo hi n]
 show l_ _ _ (pure (((sIx n 0 lo:Nat):Int),(1:Int),GG ((sIx n 0 lo:Nat):Int) ((sIx n n hi:Nat):Int) 1)) _ _ s
 rw [nG]
 exact d_ h
theorem r9 (xs:Array Value) (i k:Nat):((g_ k).filterMap fun (m:Nat)=>xs[((i:Int) + (m:Int) * 1).toNat]?).toArray=((xs.toList.drop i).take k).toArray:=by
 have e:(fun (m:Nat)=>xs[((i:Int) + (m:Int) * 1).toNat]?)=fun m=>xs[i + m]?:=by
  funext m
  have:((i:Int) + (m:Int) * 1).toNat=i + m:=by omega
  rw [this]
 rw [e]
 have:=pick_run xs i k
 rw [JB] at this
 have e2:((fun x=>xs[x]?) ∘ fun x=>i + x)=fun m=>xs[i + m]?:=rfl
 rw [e2] at this
 rw [this]
theorem getItem_tuple_cut {t sl:Addr} {items:Array Value} {vl vu:Value} {lo hi:Option Int} {Q:Value→c_→Prop} (ht:MT s.heap t items) (hs:s.heap.IsSliceOf sl vl vu .none) (pl:Kw vl lo) (pu:Kw vu hi)
 (hw:¬ (sIx items.size 0 lo=0∧sIx items.size items.size hi=items.size))
 (h:Q (.ref s.heap.objs.size) { s with heap:=s.heap.push { cls:=.type "tuple",data:=.seq ((items.toList.drop (sIx items.size 0 lo)).take (sIx items.size items.size hi - sIx items.size 0 lo)).toArray } })
 (hsz:items.size≤sizeLine):l_ (s_ prog w) A (Kq (.ref t) (.ref sl)) Q E s:=by
 have htake:sizeOk (.seq ((items.toList.drop (sIx items.size 0 lo)).take (sIx items.size items.size hi - sIx items.size 0 lo)).toArray):=by
  show ((items.toList.drop (sIx items.size 0 lo)).take (sIx items.size items.size hi - sIx items.size 0 lo)).toArray.size≤sizeLine
  rw [x_,IN,Kh,Fg]
  omega
 have hj:sIx items.size items.size hi≤items.size:=yt _ _ (j_ _) hi
 obtain ⟨os,hos,hcs,hds⟩:=id hs
 have hTs:s.TypeIs (.ref sl) "slice":=⟨os,hos,hcs⟩
 unfold Kq
 try with_reducible refine FB ?_
 first | refine a_ (d_ ?_) | skip
 refine a_ (wpAny_sequenceKey ht.typeIs (by decide) ?_)
 refine a_ (Fj (name:=b_ "__getitem__") ht.typeIs Fe
  (Ft Fe ht.typeIs entry_tuple_getitem ?_ (args_tuple_getitem _ _)))
 show l_ _ _ (Jw (.ref t) >>= _) _ _ s
 refine a_ (tupleItemsOf_ ht ?_)
 refine a_ (Ih hTs ?_)
 rw [if_pos (by decide)]
 refine a_ (sliceApplied_gen hs pl pu ?_)
 have hno:¬ ((((sIx items.size 0 lo:Nat):Int) == 0 && (1:Int) == 1 && (sIx items.size items.size hi - sIx items.size 0 lo) == items.size)=true):=by
  intro q
  rw [on,on] at q
  have q1:((sIx items.size 0 lo:Nat):Int)=0:=Lo q.1.1
  have q2:sIx items.size items.size hi - sIx items.size 0 lo=items.size:=Lo q.2
  exact hw ⟨by omega,by omega⟩
 show l_ _ _ (if (((sIx items.size 0 lo:Nat):Int) == 0 && (1:Int) == 1 && (sIx items.size items.size hi - sIx items.size 0 lo) == items.size)=true then _ else _) _ _ s
 rw [if_neg hno,r9]
 first
  | exact a_ (m:=GV _) (Fq (d_ ⟨_,rfl,d_ h⟩) htake)
  | exact a_ (m:=GV _) (Fq (a_ (d_ (d_ ⟨_,rfl,d_ h⟩))) htake)
  | exact a_ (a_ (m:=GV _) (Fq (d_ (d_ ⟨_,rfl,d_ h⟩)) htake))
  | exact a_ (a_ (m:=GV _) (Fq (d_ ⟨_,rfl,d_ h⟩) htake))
end
end HT
namespace L2
open PySem PySem.Spec PyProof.Rows
abbrev TO:=St→Hp→(Option Int→Hp→Prop)→Prop
def PO (X:Cx) (e:Option Expr) (t:TO):Prop :=
 ∀ (pins:List (Addr×Obj)) (s:c_) (σ:St) (H:Hp) (Q:Option Int→Hp→Prop),Inv X pins σ H s→t σ H Q →
  l_ (s_ X.prog X.w) X.A (evalPart e X.env) (fun u s'=>∃ o H',Inv X pins σ H' s'∧Kw u o∧Q o H') X.xe s
def vC:TO:=fun _ H Q=>Q none H
def BV (t:TE):TO:=fun σ H Q=>t σ H fun x H1=>∃ i,x=.int i∧Q (some i) H1
section
variable {X:Cx} {e:Expr} {te:TE} {lo hi:Option Expr} {tl th:TO} {pos p2:Pos}
theorem vD:PO X none vC:=by
 intro pins s σ H Q I h
 rw [evalPart_none]
 exact d_ ⟨none,H,I,.none,h⟩
theorem vF (h:PE X e te):PO X (some e) (BV te):=by
 intro pins s σ H Q I hw
 rw [evalPart_some]
 refine thn (h pins s σ H _ I hw) fun u s1 ⟨x,H1,I1,r1,q1⟩=>?_
 obtain ⟨i,rfl,q⟩:=q1
 obtain ⟨t,rfl⟩:=r1
 exact ⟨some i,H1,I1,.int i t,q⟩
def SlR (X:Cx) (r:V→Option Int→Option Int→Hp→VK→Prop):Prop :=
 ∀ (pins:List (Addr×Obj)) (s:c_) (σ:St) (H:Hp) (x:V) (v vl vu:Value) (lo hi:Option Int) (sl:Addr) (Q:VK),Inv X pins σ H s→RelV x v→s.heap.IsSliceOf sl vl vu .none→Kw vl lo→Kw vu hi→r x lo hi H Q →
  ∃ T id,typeLookup (.type T) "__getitem__"=pure (some (.builtin id))∧s.TypeIs v T∧l_ (s_ X.prog X.w) X.A (Kq v (.ref sl)) (EP X pins σ Q) X.xe s
theorem SlR.or {r r':V→Option Int→Option Int→Hp→VK→Prop} (h:SlR X r) (h':SlR X r'):SlR X (fun x lo hi H Q=>r x lo hi H Q∨r' x lo hi H Q):=by
 intro pins s σ H x v vl vu lo hi sl Q I rx hs pl pu q
 rcases q with q | q
 · exact h pins s σ H x v vl vu lo hi sl Q I rx hs pl pu q
 · exact h' pins s σ H x v vl vu lo hi sl Q I rx hs pl pu q
def tSl (r:V→Option Int→Option Int→Hp→VK→Prop) (te:TE) (tl th:TO):TE:=fun σ H Q=>te σ H fun x H1=>tl σ H1 fun l H2=>th σ H2 fun u H3=>r x l u H3 Q
theorem sd {r:V→Option Int→Option Int→Hp→VK→Prop} (hr:SlR X r) (he:PE X e te) (hl:PO X lo tl) (hu:PO X hi th):PE X (.Subscript e (.Slice lo hi none p2) pos) (tSl r te tl th):=by
 intro pins s σ H Q I h
 refine Subscript_ (thn (he pins s σ H _ I h) fun v s1 ⟨x,H1,I1,r1,q1⟩=>?_)
 refine wpAny_Slice (thn (hl pins s1 σ H1 _ I1 q1) fun vl s2 ⟨l,H2,I2,pl,q2⟩=>thn (hu pins s2 σ H2 _ I2 q2) fun vu s3 ⟨u,H3,I3,pu,q3⟩=>?_)
 rw [evalPart_none]
 refine d_ ?_
 have I4:Inv X pins σ H3 { s3 with heap:=s3.heap.push { cls:=.type "slice",data:=.fields #[vl,vu,.none] } }:=I3.kept (t':=s3.toks) fun b ob q=>e_ _ q
 obtain ⟨T,id,hT,ht,hg⟩:=hr pins { s3 with heap:=s3.heap.push { cls:=.type "slice",data:=.fields #[vl,vu,.none] } } σ H3 x v vl vu l u s3.heap.objs.size Q I4 r1 (Heap.IsSliceOf.new ..) pl pu q3
 show l_ (s_ X.prog X.w) X.A (subscriptTail e (.Slice lo hi none p2) v (.ref s3.heap.objs.size)) (EP X pins σ Q) X.xe { s3 with heap:=s3.heap.push { cls:=.type "slice",data:=.fields #[vl,vu,.none] } }
 exact tail_any (ops:=[.ref s3.heap.objs.size,v]) ht hT hg (by with_unfolding_all rfl)
def uC (xs:List V) (lo hi:Option Int):List V:=(xs.drop (HT.sIx xs.length 0 lo)).take (HT.sIx xs.length xs.length hi - HT.sIx xs.length 0 lo)
theorem fT (xs:List V) (lo hi:Option Int):(uC xs lo hi).length≤xs.length:=by
 unfold uC
 rw [IN,Kh]
 omega
def Ea (K:ck):V→Option Int→Option Int→Hp→VK→Prop:=fun x lo hi H Q=>∃ a xs,x=.ref a∧SqT K H a xs ∧
 ¬ (HT.sIx xs.length 0 lo=0∧HT.sIx xs.length xs.length hi=xs.length)∧∀ p,H p=none→Q (.ref p) (upd H p (.tup (uC xs lo hi)))
theorem sl_tup:SlR X (Ea X.K):=by
 intro pins s σ H x v vl vu lo hi sl Q I rx hs pl pu h
 obtain ⟨a,xs,rfl,hx,hw,q⟩:=h
 cases rx
 obtain ⟨its,r,ht,hz⟩:=I.tuple hx
 have hlen:its.toArray.size=xs.length:=by rw [x_]; exact r.length.symm
 refine ⟨"tuple",_,Fe.lookup,ht.typeIs,?_⟩
 refine HT.getItem_tuple_cut ht hs pl pu (by rw [hlen]; exact hw) ?_ (by rw [hlen]; exact hz)
 rw [hlen]
 refine ⟨.ref s.heap.objs.size,_,I.laid (t':=s.toks) (o:=.tup (uC xs lo hi)) (fun b ob q=>e_ _ q) (j_ _) ?_,rfl,q _ (I.hok.fresh (j_ _))⟩
 exact ⟨EM (fT xs lo hi) hz,_,(r.drop (HT.sIx xs.length 0 lo)).take (HT.sIx xs.length xs.length hi - HT.sIx xs.length 0 lo),M3 _ _⟩
def yu (K:ck):R2:=fun x y H Q=>∃ a b xs ys,x=.ref a∧y=.ref b∧SqT K H a xs∧SqT K H b ys∧xs≠[]∧xs.length + ys.length≤sizeLine ∧
 (ys=[]→Q (.ref a) H)∧(ys≠[]→∀ p,H p=none→Q (.ref p) (upd H p (.tup (xs ++ ys))))
theorem Vals.nil_iff {xs:List V} {us:List Value} (r:Vals xs us):us=[]↔xs=[]:=by
 cases r with
 | nil=>simp
 | cons _ _=>simp
theorem op_catT:OpR X (GN .Add) (yu X.K):=by
 intro pins s σ H x y v u Q I rx ry h
 obtain ⟨a,b,xs,ys,rfl,rfl,ha,hb,hx,hz,q1,q2⟩:=h
 cases rx
 cases ry
 obtain ⟨its,r1,p1,_⟩:=I.tuple ha
 obtain ⟨its2,r2,p2,_⟩:=I.tuple hb
 refine HT.cat_tup p1 p2 (fun z=>hx (r1.nil_iff.mp z)) (fun z=>⟨.ref a,H,I,rfl,q1 (r2.nil_iff.mp z)⟩) (fun z=>?_) (by rw [← r1.length,← r2.length]; exact hz)
 refine ⟨.ref s.heap.objs.size,_,I.laid (t':=s.toks) (o:=.tup (xs ++ ys)) (fun b ob q=>e_ _ q) (j_ _) ?_,rfl,q2 (fun w=>z (r2.nil_iff.mpr w)) _ (I.hok.fresh (j_ _))⟩
 exact ⟨by rw [Fc]; exact hz,_,r1.append r2,M3 _ _⟩
end
def ixN (n:Nat) (i:Int):Option Nat:=if 0≤i then (if i < n then some i.toNat else none) else if -(n:Int)≤i then some (i + n).toNat else none
def atI {α:Type} (xs:List α) (i:Int):Option α:=(ixN xs.length i).bind fun j=>xs[j]?
theorem vG {n:Nat} {i:Int} {j:Nat} (h:ixN n i=some j):seqIndex? i n=some j∧j < n∧-(n:Int)≤i∧i < n:=by
 unfold ixN at h
 by_cases h0:0≤i
 · rw [if_pos h0] at h
   by_cases h1:i < n
   · rw [if_pos h1] at h
     have e:i.toNat=j:=EU h
     exact ⟨by rw [seqIndex_of h0 h1,e],by omega,by omega,h1⟩
   · rw [if_neg h1] at h; cases h
 · rw [if_neg h0] at h
   by_cases h1:-(n:Int)≤i
   · rw [if_pos h1] at h
     have e:(i + n).toNat=j:=EU h
     exact ⟨by rw [seqIndex_neg (by omega) h1,e],by omega,h1,by omega⟩
   · rw [if_neg h1] at h; cases h
theorem k9 {α:Type} {xs:List α} {i:Int} {v:α} (h:atI xs i=some v):∃ j,seqIndex? i xs.length=some j∧xs[j]?=some v∧j < xs.length∧-(xs.length:Int)≤i∧i < xs.length:=by
 unfold atI at h
 cases e:ixN xs.length i with
 | none=>rw [e] at h; cases h
 | some j =>
  rw [e] at h
  obtain ⟨h1,h2,h3,h4⟩:=vG e
  exact ⟨j,h1,h,h2,h3,h4⟩
def pf (b:Expr):Prop:=∀ o i,Mt b false o i=operate [o,i] (Kq o i)
def IxR (X:Cx) (r:R2):Prop :=
 ∀ (value slice:Expr) (pins:List (Addr×Obj)) (s:c_) (σ:St) (H:Hp) (x y:V) (v u:Value) (Q:VK),Inv X pins σ H s→RelV x v→RelV y u→r x y H Q →
  Mt slice false v u=operate [v,u] (Kq v u)→l_ (s_ X.prog X.w) X.A (subscriptTail value slice v u) (EP X pins σ Q) X.xe s
def MtR (X:Cx) (id:String) (r:V→List V→Hp→VK→Prop):Prop :=
 ∀ (pins:List (Addr×Obj)) (s:c_) (σ:St) (H:Hp) (x:V) (xs:List V) (v:Value) (us:List Value) (Q:VK),Inv X pins σ H s→RelV x v→Vals xs us→r x xs H Q →
  l_ (s_ X.prog X.w) X.A (call (.builtin id) (v :: us)) (EP X pins σ Q) X.xe s
section
variable {X:Cx} {a b:Expr} {ta tb:TE} {pos:Pos}
theorem IxR.or {r r':R2} (h:IxR X r) (h':IxR X r'):IxR X (fun x y H Q=>r x y H Q∨r' x y H Q):=by
 intro value slice pins s σ H x y v u Q I rx ry q hs
 rcases q with q | q
 · exact h value slice pins s σ H x y v u Q I rx ry q hs
 · exact h' value slice pins s σ H x y v u Q I rx ry q hs
theorem MtR.or {id:String} {r r':V→List V→Hp→VK→Prop} (h:MtR X id r) (h':MtR X id r'):MtR X id (fun x xs H Q=>r x xs H Q∨r' x xs H Q):=by
 intro pins s σ H x xs v us Q I rx rs q
 rcases q with q | q
 · exact h pins s σ H x xs v us Q I rx rs q
 · exact h' pins s σ H x xs v us Q I rx rs q
theorem BW {r:R2} (hr:IxR X r) (ha:PE X a ta) (hb:PE X b tb) (hs:pf b):PE X (.Subscript a b pos) (tOp r ta tb):=by
 intro pins s σ H Q I h
 exact Subscript_ (BJ ha hb I h fun v u s2 x y H2 I2 rx ry q=>hr a b pins s2 σ H2 x y v u Q I2 rx ry q (hs _ _))
def Dl (K:ck):R2:=fun x y H Q=>∃ p xs i v,x=.ref p∧y=.int i∧SqL K H p xs∧atI xs i=some v∧Q v H
def Do (K:ck):R2:=fun x y H Q=>∃ p xs i v,x=.ref p∧y=.int i∧SqT K H p xs∧atI xs i=some v∧Q v H
def Dr:R2:=fun x y H Q=>∃ z i c,x=.str z∧y=.int i∧z.length≤sizeLine∧atI z.cps.toList i=some c∧Q (.str ⟨#[c]⟩) H
theorem ix_list:IxR X (Dl X.K):=by
 intro value slice pins s σ H x y v u Q I rx ry h hs
 obtain ⟨p,xs,i,z,rfl,rfl,hq,he,q⟩:=h
 cases rx
 obtain ⟨t,rfl⟩:=ry
 obtain ⟨its,r,pl,hz⟩:=I.list hq
 obtain ⟨j,h1,h2,h3,h4,h5⟩:=k9 he
 obtain ⟨w,ew,rw'⟩:=r.get h2
 have hl:=r.length
 have hn:=mq
 have fin:EP X pins σ Q w s:=⟨z,H,I,rw',q⟩
 by_cases h0:0≤i
 · have hj:i.toNat=j:=by
    rw [seqIndex_of h0 h5] at h1
    exact EU h1
   exact item_listR pl.isList h0 (by omega) (by rw [hj]; simpa using ew) fin hs
 · have hj:(i + (its.toArray.size:Int)).toNat=j:=by
    rw [seqIndex_neg (by omega) h4] at h1
    rw [x_,← hl]
    exact EU h1
   exact KC (x:=w) pl.isList.typeIs slot_list_getitem.lookup
    (wpAny_getItem_list_neg (Q:=fun r s'=>r=w∧EP X pins σ Q r s') pl.isList (by omega) (by rw [x_] <;> omega) (by omega) (by rw [hj]; simpa using ew) ⟨rfl,fin⟩) hs
theorem ix_tup:IxR X (Do X.K):=by
 intro value slice pins s σ H x y v u Q I rx ry h hs
 obtain ⟨p,xs,i,z,rfl,rfl,hq,he,q⟩:=h
 cases rx
 obtain ⟨t,rfl⟩:=ry
 obtain ⟨its,r,pl,hz⟩:=I.tuple hq
 obtain ⟨j,h1,h2,h3,h4,h5⟩:=k9 he
 obtain ⟨w,ew,rw'⟩:=r.get h2
 have hl:=r.length
 have hn:=mq
 have fin:EP X pins σ Q w s:=⟨z,H,I,rw',q⟩
 exact KC (x:=w) pl.typeIs slot_tuple_getitem.lookup
  (getItem_tuple (j:=j) (Q:=fun r s'=>r=w∧EP X pins σ Q r s') pl (by omega) (by omega) (by rw [x_,← hl]; exact h1) (by simpa using ew) ⟨rfl,fin⟩) hs
theorem yw:IxR X Dr:=by
 intro value slice pins s σ H x y v u Q I rx ry h hs
 obtain ⟨z,i,c,rfl,rfl,hz,he,q⟩:=h
 obtain ⟨t,rfl⟩:=rx
 obtain ⟨t',rfl⟩:=ry
 obtain ⟨j,h1,h2,h3,h4,h5⟩:=k9 he
 have hl:z.cps.toList.length=z.length:=by simp [Str.length]
 rw [hl] at h1 h4 h5
 have hn:=mq
 exact tail_any (IJ s z t) slot_str_getitem.lookup (getItem_str (c:=c) (by
  have e1:decide (i < -(2 ^ 63:Int))=false:=decide_eq_false (by omega)
  have e2:decide (i ≥ 2 ^ 63)=false:=decide_eq_false (by omega)
  rw [e1,e2,LD]) (by rw [h1]; simpa using h2) ⟨.str ⟨#[c]⟩,H,I.tok _,⟨_,rfl⟩,q⟩) hs
def rIx (K:ck):R2:=fun x y H Q=>Dl K x y H Q∨Do K x y H Q∨Dr x y H Q
theorem yx:IxR X (rIx X.K):=ix_list.or (ix_tup.or yw)
theorem Inv.lst {pins:List (Addr×Obj)} {σ:St} {H:Hp} {s:c_} {p:Addr} {xs:List V} (I:Inv X pins σ H s) (h:H p=some (.lst xs)) :
 ∃ (its:List Value) (n:Nat),Vals xs its∧s.heap.get? p=some { cls:=.type "list",data:=.seq its.toArray n }∧xs.length≤sizeLine:=by
 obtain ⟨z,its,n,r,e⟩:=I.hok p _ h
 exact ⟨its,n,r,e,z⟩
theorem jJ (lo hi:Option Int) (n:Nat):(HY lo hi none n).1=((HT.sIx n 0 lo:Nat):Int)∧(HY lo hi none n).2.1=((HT.sIx n n hi:Nat):Int)∧(HY lo hi none n).2.2=1:=by
 refine ⟨?_,?_,rfl⟩
 · cases lo with
   | none=>simp [HY,HT.sIx]
   | some i =>
    simp only [HY,HT.sIx,Ml,show (1:Int) > 0 by decide,if_true]
    by_cases h:i < 0
    · simp only [h,if_true] <;> omega
    · simp only [h,if_false] <;> omega
 · cases hi with
   | none=>simp [HY,HT.sIx]
   | some i =>
    simp only [HY,HT.sIx,Ml,show (1:Int) > 0 by decide,if_true]
    by_cases h:i < 0
    · simp only [h,if_true] <;> omega
    · simp only [h,if_false] <;> omega
theorem iO (its:List Value) (lo hi:Option Int):slicePick its.toArray lo hi none=((its.drop (HT.sIx its.length 0 lo)).take (HT.sIx its.length its.length hi - HT.sIx its.length 0 lo)).toArray:=by
 obtain ⟨h1,h2,h3⟩:=jJ lo hi its.toArray.size
 unfold slicePick
 rw [h1,h2,h3]
 simp only [sliceRange_one,pick_run,x_] <;> rfl
def Eb (K:ck):V→Option Int→Option Int→Hp→VK→Prop:=fun x lo hi H Q=>∃ a xs,x=.ref a∧SqL K H a xs∧∀ p,H p=none→Q (.ref p) (upd H p (.lst (uC xs lo hi)))
theorem vH:SlR X (Eb X.K):=by
 intro pins s σ H x v vl vu lo hi sl Q I rx hs pl pu h
 obtain ⟨a,xs,rfl,hx,q⟩:=h
 cases rx
 obtain ⟨its,r,ht,hz⟩:=I.list hx
 have hlen:=r.length
 refine ⟨"list",_,slot_list_getitem.lookup,ht.isList.typeIs,?_⟩
 refine wpAny_getItem_list_slice ht.isList hs pl pu .none (by simp) ?_ (by rw [x_] <;> omega)
 rw [iO,← hlen]
 refine ⟨.ref s.heap.objs.size,_,I.laid (t':=s.toks) (o:=.lst (uC xs lo hi)) (fun b ob q=>e_ _ q) (j_ _) ?_,rfl,q _ (I.hok.fresh (j_ _))⟩
 exact ⟨EM (fT xs lo hi) hz,_,0,(r.drop (HT.sIx xs.length 0 lo)).take (HT.sIx xs.length xs.length hi - HT.sIx xs.length 0 lo),o_ _ rfl⟩
def fz:V→Bool
 | .non=>true
 | .bl _=>true
 | .int _=>true
 | .str _=>true
 | _=>false
def eqV:V→V→Bool
 | .non,.non=>true
 | .bl a,.bl b=>a == b
 | .bl a,.int b=>(if a then 1 else 0) == b
 | .int a,.bl b=>a == (if b then 1 else 0)
 | .int a,.int b=>a == b
 | .str a,.str b=>a == b
 | _,_=>false
theorem yy {A:u_} {s:c_} {y x:V} {u v:Value} (ry:RelV y u) (rx:RelV x v) (fy:fz y=true) (fx:fz x=true):SeqAt.EqAt A s u v (eqV y x):=by
 cases y with
 | non =>
  cases ry
  cases x with
  | non=>cases rx; exact SeqAt.EqAt.same _
  | bl b=>cases rx; exact SeqAt.EqAt.none_bool b
  | int b=>obtain ⟨t,rfl⟩:=rx; exact SeqAt.EqAt.none_int b t
  | str b=>obtain ⟨t,rfl⟩:=rx; exact SeqAt.EqAt.none_str b t
  | _=>exact absurd (show false=true from fx) p_
 | bl a =>
  cases ry
  cases x with
  | non=>cases rx; exact SeqAt.EqAt.bool_none a
  | bl b=>cases rx; exact K4 a b
  | int b=>obtain ⟨t,rfl⟩:=rx; exact SeqAt.EqAt.bool_int a b t
  | str b=>obtain ⟨t,rfl⟩:=rx; exact SeqAt.EqAt.bool_str a b t
  | _=>exact absurd (show false=true from fx) p_
 | int a =>
  obtain ⟨t',rfl⟩:=ry
  cases x with
  | non=>cases rx; exact SeqAt.EqAt.int_none a t'
  | bl b=>cases rx; exact SeqAt.EqAt.int_bool a t' b
  | int b=>obtain ⟨t,rfl⟩:=rx; exact SeqAt.EqAt.int_int a t' b t
  | str b=>obtain ⟨t,rfl⟩:=rx; exact LH a t' b t
  | _=>exact absurd (show false=true from fx) p_
 | str a =>
  obtain ⟨t',rfl⟩:=ry
  cases x with
  | non=>cases rx; exact SeqAt.EqAt.str_none a t'
  | bl b=>cases rx; exact SeqAt.EqAt.str_bool a t' b
  | int b=>obtain ⟨t,rfl⟩:=rx; exact LG a t' b t
  | str b=>obtain ⟨t,rfl⟩:=rx; exact SeqAt.EqAt.str_str a t' b t
  | _=>exact absurd (show false=true from fx) p_
 | _=>exact absurd (show false=true from fy) p_
def eqU (x:V) (u:Value):Bool:=match u with
 | .none=>eqV .non x
 | .bool b=>eqV (.bl b) x
 | .int i _=>eqV (.int i) x
 | .str z _=>eqV (.str z) x
 | _=>false
theorem uD {x y:V} {u:Value} (r:RelV y u) (f:fz y=true):eqU x u=eqV y x:=by
 cases y with
 | non=>cases r; rfl
 | bl b=>cases r; rfl
 | int i=>obtain ⟨t,rfl⟩:=r; rfl
 | str z=>obtain ⟨t,rfl⟩:=r; rfl
 | _=>exact absurd (show false=true from f) p_
theorem fU {x:V}:∀ {xs:List V} {us:List Value},Vals xs us→xs.all fz=true→us.any (eqU x)=xs.any fun y=>eqV y x
 | _,_,.nil,_=>rfl
 | y :: xs,u :: us,.cons r t,f=>by
  rw [Gw,on] at f
  rw [F8,F8,uD r f.1,fU t f.2]
theorem dR {A:u_} {s:c_} {x:V} {v:Value} (rx:RelV x v) (fx:fz x=true):∀ {xs:List V} {us:List Value},Vals xs us→xs.all fz=true→∀ u∈us,SeqAt.EqAt A s u v (eqU x u)
 | _,_,.nil,_=>fun u hu=>by cases hu
 | y :: xs,u :: us,.cons r t,f=>fun u' hu=>by
  rw [Gw,on] at f
  rcases pi.mp hu with rfl | hu
  · rw [uD r f.1]; exact yy r rx f.1 fx
  · exact dR rx fx t f.2 u' hu
def inV (x:V) (xs:List V):Bool:=xs.any fun y=>eqV y x
def rIn (K:ck) (neg:Bool):R2:=fun x y H Q=>∃ p xs,y=.ref p∧(SqL K H p xs∨SqT K H p xs)∧fz x=true∧xs.all fz=true∧Q (.bl (if neg then !inV x xs else inV x xs)) H
theorem ph:OpR X (EF .In) (rIn X.K false):=by
 intro pins s σ H x y v u Q I rx ry h
 obtain ⟨p,xs,rfl,hq,fx,fs,q⟩:=h
 cases ry
 rcases hq with hq | hq
 · obtain ⟨its,r,pl,hz⟩:=I.list hq
   refine SeqAt.in_listAt (eqU x) pl.isList (fun w hw=>dR rx fx r fs w (by simpa using hw)) ⟨.bl _,H,I,rfl,?_⟩
   rw [show its.toArray.any (eqU x)=its.any (eqU x) by simp,fU r fs]
   exact q
 · obtain ⟨its,r,pl,hz⟩:=I.tuple hq
   refine SeqAt.in_tupleAt (eqU x) pl (fun w hw=>dR rx fx r fs w (by simpa using hw)) ⟨.bl _,H,I,rfl,?_⟩
   rw [show its.toArray.any (eqU x)=its.any (eqU x) by simp,fU r fs]
   exact q
theorem jK:OpR X (EF .NotIn) (rIn X.K true):=by
 intro pins s σ H x y v u Q I rx ry h
 obtain ⟨p,xs,rfl,hq,fx,fs,q⟩:=h
 cases ry
 rcases hq with hq | hq
 · obtain ⟨its,r,pl,hz⟩:=I.list hq
   refine SeqAt.notIn_listAt (eqU x) pl.isList (fun w hw=>dR rx fx r fs w (by simpa using hw)) ⟨.bl _,H,I,rfl,?_⟩
   rw [show its.toArray.any (eqU x)=its.any (eqU x) by simp,fU r fs]
   exact q
 · obtain ⟨its,r,pl,hz⟩:=I.tuple hq
   refine SeqAt.notIn_tupleAt (eqU x) pl (fun w hw=>dR rx fx r fs w (by simpa using hw)) ⟨.bl _,H,I,rfl,?_⟩
   rw [show its.toArray.any (eqU x)=its.any (eqU x) by simp,fU r fs]
   exact q
theorem op_notIn_str:OpR X (EF .NotIn) (fun x y H Q=>∃ i j,x=.str i∧y=.str j∧Q (.bl (!(!(Fv j i 0 j.length 1).isEmpty))) H):=by
 intro pins s σ H x y v u Q I rx ry h
 obtain ⟨i,j,rfl,rfl,q⟩:=h
 obtain ⟨t,rfl⟩:=rx
 obtain ⟨t',rfl⟩:=ry
 exact notIn_str ⟨.bl _,H,I,rfl,q⟩
theorem CallR.or {f:Value} {r r':List V→Hp→VK→Prop} (h:CallR X f r) (h':CallR X f r'):CallR X f (fun xs H Q=>r xs H Q∨r' xs H Q):=by
 intro pins s σ H xs us Q I rs q
 rcases q with q | q
 · exact h pins s σ H xs us Q I rs q
 · exact h' pins s σ H xs us Q I rs q
theorem iP:CallR X (.type "tuple") (fun xs H Q=>∃ p ys,xs=[.ref p]∧((SqL X.K H p ys∧∀ l,H l=none→Q (.ref l) (upd H l (.tup ys)))∨(SqT X.K H p ys∧Q (.ref p) H))):=by
 intro pins s σ H xs us Q I r h
 obtain ⟨p,ys,rfl,h⟩:=h
 obtain ⟨u,rfl,rx⟩:=gY r
 cases rx
 rcases h with ⟨hq,q⟩ | ⟨hq,q⟩
 · obtain ⟨its,r',pl,hz⟩:=I.list hq
   have hlen:=r'.length
   refine call_tuple_list pl.isList (fun h' kp=>?_) (by simp only [x_] <;> omega)
   have I1:Inv X pins σ H { s with heap:=h' }:=I.kept (t':=s.toks) kp
   have I2:Inv X pins σ (upd H h'.objs.size (.tup ys)) { s with heap:=h'.push { cls:=.type "tuple",data:=.seq its.toArray } } :=
    I1.laid (t':=s.toks) (fun b o e=>e_ _ e) (j_ _) (show ObjOk X.prog X.w _ _ _ (.tup ys) from ⟨hz,its,r',M3 _ _⟩)
   exact ⟨.ref h'.objs.size,_,I2,rfl,q _ (I1.hok.fresh (j_ _))⟩
 · obtain ⟨its,r',pl,hz⟩:=I.tuple hq
   exact call_tuple_same pl ⟨.ref p,H,I,rfl,q⟩
def tyV (K:ck) (T:String) (x:V) (H:Hp):Prop:=match x with
 | .str _=>T="str"
 | .int _=>T="int"
 | .ref p=>(T="list"∧∃ xs,SqL K H p xs)∨(T="tuple"∧∃ o,K.lookup p=some o∧o.cls=.type "tuple"∧o.dict=none) ∨
  (T="dict"∧((∃ kvs,H p=some (.dK kvs))∨∃ kvs,H p=some (.dT kvs)))∨(T="set"∧∃ S n,H p=some (.set S n))
 | _=>False
theorem yz {pins:List (Addr×Obj)} {σ:St} {H:Hp} {s:c_} {T:String} {x:V} {v:Value} (I:Inv X pins σ H s) (r:RelV x v) (ty:tyV X.K T x H) :
 s.TypeIs v T∧∀ a,v=.ref a→∃ ob,s.heap.get? a=some ob∧ob.dict=none:=by
 cases x with
 | str z =>
  obtain ⟨t,rfl⟩:=r
  cases (show T="str" from ty)
  exact ⟨IJ s z t,fun _ e=>nomatch e⟩
 | int i =>
  obtain ⟨t,rfl⟩:=r
  cases (show T="int" from ty)
  exact ⟨typeIs_int s i t,fun _ e=>nomatch e⟩
 | ref p =>
  cases r
  rcases ty with ⟨rfl,xs,hq⟩ | ⟨rfl,o,hk,hc,hd⟩ | ⟨rfl,hk⟩ | ⟨rfl,S,n,hk⟩
  · obtain ⟨its,_,pl,_⟩:=I.list hq
    refine ⟨pl.isList.typeIs,fun a e=>?_⟩
    cases e
    obtain ⟨o,n,e,c,hd,_⟩:=pl
    exact ⟨o,e,hd⟩
  · refine ⟨⟨o,I.kIn p o hk,hc⟩,fun a e=>?_⟩
    cases e
    exact ⟨o,I.kIn _ o hk,hd⟩
  · have z:∃ o,s.heap.get? p=some o∧o.ExactDict:=by
     rcases hk with ⟨kvs,hk⟩ | ⟨kvs,hk⟩
     · obtain ⟨_,_,_,_,o,_,_,e,ex,_⟩:=I.hok p _ hk
       exact ⟨o,e,ex⟩
     · obtain ⟨_,_,_,_,o,_,_,e,ex,_⟩:=I.hok p _ hk
       exact ⟨o,e,ex⟩
    obtain ⟨o,e,ex⟩:=z
    refine ⟨⟨o,e,ex.1⟩,fun a e2=>?_⟩
    cases e2
    exact ⟨o,e,ex.2.1⟩
  · obtain ⟨o,_,_,_,e,ex,_⟩:=I.hok p _ hk
    refine ⟨⟨o,e,ex.1⟩,fun a e2=>?_⟩
    cases e2
    exact ⟨o,e,ex.2.1⟩
 | _=>exact Fu ty
def tBM (K:ck) (T:String) (r:V→List V→Hp→VK→Prop) (to:TE) (t:TA):TE:=fun σ H Q=>to σ H fun x H1=>tyV K T x H1∧t σ H1 fun xs H2=>r x xs H2 Q
variable {o e:Expr} {es:List Expr} {to:TE} {t:TA} {name:Str} {apos cpos:Pos} {T id:String} {r:V→List V→Hp→VK→Prop}
theorem yA (pa:PlainAttrs T) (slot:Slot T name id) (hty:typeOf (.builtin id)=pure (.type "method_descriptor")) (hm:MtR X id r) (ho:PE X o to) (ha:PA X (e :: es) t)
 (hbase:GU o name X.env (eval o X.env)=eval o X.env:=by rfl)
 (hfew:((EY cpos (f_ (e :: es) X.env)).all (fun x=>!x.1) && (G1 cpos (F4 [] X.env)).all (fun x=>x.1.isSome)
   && decide ((e :: es).length + ([]:List GY).length + (if ([]:List GY).isEmpty then 0 else 1) < 30))=true:=by rfl)
 (hline:(apos.endLine == cpos.line)=true:=by rfl) (hs:f_ (e :: es) X.env=(false,eval e X.env) :: f_ es X.env:=by rfl) (hplain:(EY cpos (f_ es X.env)).any (·.1)=false:=by rfl) :
 PE X (.Call (.Attribute o name apos) (e :: es) [] cpos) (tBM X.K T r to t):=by
 intro pins s σ H Q I h
 refine wpAny_Call_method_late hbase hfew hline rfl (thn (ho pins s σ H _ I h) fun v s1 ⟨x,H1,I1,r1,ty,q1⟩=>?_)
 obtain ⟨h1,h2⟩:=yz I1 r1 ty
 refine ⟨T,id,pa,slot,hty,h1,h2,?_⟩
 have hA:=ha cpos pins s1 σ H1 _ I1 q1
 rw [hs] at hA ⊢
 refine Io (by show (false || (EY cpos (f_ es X.env)).any (·.1))=false; rw [hplain] <;> rfl) (K9 ?_)
 exact thn hA fun us s2 ⟨vs,H2,I2,r2,q2⟩=>hm pins s2 σ H2 x vs v us Q I2 r1 r2 q2
end
def MtM (X:Cx) (id:String) (r:V→List V→Hp→VK→Prop):Prop :=
 ∀ (pins:List (Addr×Obj)) (s:c_) (σ:St) (H:Hp) (x:V) (xs:List V) (v:Value) (us:List Value) (Q:VK),Inv X pins σ H s→RelV x v→Vals xs us→r x xs H Q →
  l_ (s_ X.prog X.w) X.A (call (.builtin id) (v :: us)) (EP X pins σ Q) X.xe s
theorem Vals.one:∀ {x:V} {us:List Value},Vals [x] us→∃ u,us=[u]∧RelV x u
 | _,_,.cons r .nil=>⟨_,rfl,r⟩
theorem Vals.two:∀ {x y:V} {us:List Value},Vals [x,y] us→∃ u v,us=[u,v]∧RelV x u∧RelV y v
 | _,_,_,.cons r (.cons q .nil)=>⟨_,_,rfl,r,q⟩
theorem Vals.zero:∀ {us:List Value},Vals [] us→us=[]
 | _,.nil=>rfl
section
variable {X:Cx} {pins:List (Addr×Obj)} {σ:St} {H:Hp} {s:c_} {l b:Addr} {xs ys zs:List V}
theorem Inv.lset {its its':List Value} {n:Nat} {f:Array Value→Array Value} {t':Nat} (I:Inv X pins σ H s) (hH:H l=some (.lst xs))
 (e:s.heap.get? l=some { cls:=.type "list",data:=.seq its.toArray n }) (hf:f its.toArray=its'.toArray) (hv:Vals ys its') (hz:ys.length≤sizeLine) :
 Inv X pins σ (upd H l (.lst ys)) { s with heap:=s.heap.update l (ER f),toks:=t' }:=by
 have q:=Mi e f
 rw [hf] at q
 refine I.write (x:=l) (e:=l) (by rw [hH]; exact trivial) (.inl rfl) (fun b' u hb hu=>(Kx s.heap (ER f) (GE hb)).trans hu) ⟨_,q⟩ ?_
 exact ⟨hz,its',_,hv,q⟩
theorem Inv.lnew {its:List Value} {t':Nat} (I:Inv X pins σ H s) (hv:Vals ys its) (hz:ys.length≤sizeLine) :
 Inv X pins σ (upd H s.heap.objs.size (.lst ys)) { s with heap:=s.heap.push { cls:=.type "list",data:=.seq its.toArray },toks:=t' } :=
 I.laid (fun _ _ q=>e_ _ q) (j_ _) ⟨hz,its,0,hv,o_ _ rfl⟩
theorem Inv.fresh (I:Inv X pins σ H s):H s.heap.objs.size=none:=I.hok.fresh (j_ _)
theorem Inv.lstM (I:Inv X pins σ H s) (hH:H l=some (.lst xs)):xs.length≤sizeLine∧∃ (its:List Value) (n:Nat),Vals xs its∧xs.length=its.length∧s.heap.get? l=some { cls:=.type "list",data:=.seq its.toArray n }:=by
 obtain ⟨z,its,n,r,e⟩:=I.hok l _ hH
 exact ⟨z,its,n,r,r.length,e⟩
end
section
variable {X:Cx}
def vI:V→List V→Hp→VK→Prop:=fun x vs H Q=>∃ l xs y,x=.ref l∧vs=[y]∧H l=some (.lst xs)∧xs.length < sizeLine∧Q .non (upd H l (.lst (xs ++ [y])))
theorem pj:MtM X "list.append" vI:=by
 intro pins s σ H x vs v us Q I rx rv h
 obtain ⟨l,xs,y,rfl,rfl,hH,hz,q⟩:=h
 cases rx
 obtain ⟨u,rfl,ru⟩:=rv.one
 obtain ⟨z,its,n,r,hl,e⟩:=I.lstM hH
 refine Kr IT ⟨_,e,rfl⟩ Lr (K8 _ _) (LS l its.toArray n u (by rw [x_]; omega)) ⟨e,?_⟩
 refine ⟨.non,_,I.lset (its':=its ++ [u]) hH e (by simp) (r.append (.cons ru .nil)) ?_,rfl,q⟩
 rw [Fc,KY]
 omega
def Ds:R2:=fun x y H Q=>∃ l b xs zs,x=.ref l∧y=.ref b∧H l=some (.lst xs)∧H b=some (.lst zs)∧xs.length + zs.length≤sizeLine∧∀ p,H p=none→Q (.ref p) (upd H p (.lst (xs ++ zs)))
theorem yB:OpR X (GN .Add) Ds:=by
 intro pins s σ H x y v u Q I rx ry h
 obtain ⟨l,b,xs,zs,rfl,rfl,hH,hB,hz,q⟩:=h
 cases rx
 cases ry
 obtain ⟨z,its,n,r,hl,e⟩:=I.lstM hH
 obtain ⟨z2,its2,n2,r2,hl2,e2⟩:=I.lstM hB
 refine PySem.P.add_list e e2 ?_ (by rw [x_,x_]; omega)
 have ea:its.toArray ++ its2.toArray=(its ++ its2).toArray:=by simp
 rw [ea]
 exact ⟨.ref _,_,I.lnew (t':=s.toks) (r.append r2) (by rw [Fc]; omega),rfl,q _ I.fresh⟩
end
section
variable {prog:Program} {w:w_} {A:u_} {E:Value→c_→Prop} {s:c_}
end
section
variable {X:Cx}
end
end L2
namespace Att
open PySem PySem.W PySem.Calls PyProof.Rows
theorem fV {P:K5} {h:Heap}:∀ (ns:List Int) (vs:List Value),WellAll P h vs (ns.map WData.int)→Ln vs ns:=by
 intro ns
 induction ns with
 | nil =>
  intro vs w
  rw [Iw] at w
  cases w
  exact .nil
 | cons n ns ih =>
  intro vs w
  rw [t_] at w
  cases w with
  | cons a b =>
   cases a
   exact .cons _ _ (ih _ b)
theorem pk {l:OpenLaw} {n:Nat} (hn:l.most=some n) {P:K5} {h:Heap} {args:List WData} {vals:List Value}
 (hpre:l.row.toRowW.claim.pre args=true) (hwl:WellAll P h vals args) :
 ∃ a vs ns,vals=[r_ a]∧args=[WData.list (ns.map WData.int)]∧h.get? a=some { cls:=.type "list",data:=.seq vs.toArray }∧Ln vs ns∧ns.length≤n:=by
 have hsh:WShape.hasAll [] args [.list .int]=true:=(pre_splitW hpre).1
 have hc:l.pre.holds [] { args:=args }=true:=(pre_splitW hpre).2
 obtain ⟨d,r,rfl,h1,h2⟩:=hasAllW_cons hsh
 obtain rfl:=hasAllW_nil h2
 obtain ⟨xs,rfl,h3⟩:=hasW_list h1
 obtain ⟨ns,rfl⟩:=items_int h3
 have hlen:ns.length≤n:=by
  unfold OpenLaw.pre at hc
  have h4:(WTm.not (.lt (.lit (.int (n:Int))) (.len (.arg 0)))).holds [] { args:=[.list (ns.map .int)] }=true:=by
   have h4:=(holds_andW hc).1
   rw [hn] at h4
   exact h4
  have h5:=condW_of h4 (w_not (w_lt w_lit (w_len_list (w_arg rfl))))
  rw [Ey] at h5
  refine Mn fun q=>?_
  have q':(n:Int) < ((ns.length:Nat):Int):=by omega
  first
   | (rw [decide_eq_true q'] at h5; exact absurd h5 (by decide))
   | (simp at h5; omega)
 cases hwl with
 | cons w1 w2 =>
  cases w2
  cases w1 with
  | list ho hall=>exact ⟨_,_,ns,rfl,rfl,ho,fV ns _ hall,hlen⟩
theorem pp (l:OpenLaw) (args:List WData):l.row.toRowW.claim.post args (.bool true) args=true :=
 postW_of (r:=l.row.toRowW) (X:=(true == true))
  (show WShape.has [] (.bool true) .bool=true by first | rfl | decide | simp [WShape.has,WShape.arms,WShape.armsAll])
  (show (WTm.eq .res (.lit (.bool true))).value [] { args:=args,res:=some (.bool true),after:=args }=some (.bool (true == true)) from w_eq_bool (w_res rfl) w_lit) rfl
theorem attach_call {l:OpenLaw} {n:Nat} {q:Program} {loose:List Str} {XP:(Str→Option Value)→Heap→Prop} {YP:w_→Heap→Prop} {d:DefRec}
 (hn:l.most=some n) (hdf:d.params.defaults=[])
 (call:∀ (w:w_) (s₀ s₁:c_) (mg mb:Str→Option Value) (fa:Addr) (o:Obj) (pm cd doc:Value) (a:Addr) (vs:List Value) (ns:List Int),
   Ground q loose [] XP w s₀ mg mb s₁.heap→YP w s₁.heap →
   s₁.heap.get? fa=some o→o.data=.func (docDef d.name d.params d.body d.scope pm cd doc)→s₁.heap.CodeRec cd d.name→mg d.name=some (.ref fa) →
   s₁.heap.get? a=some { cls:=.type "list",data:=.seq vs.toArray }→Ln vs ns→ns.length≤n→s₁.gens=#[] →
   Jd (s_ l.prog w) Li (.call (.ref fa) ⟨[.ref a],[]⟩) (fun r s'=>r=.ok (.ret (.bool true))∧OldK s₁.heap s'.heap∧s'.os=s₁.os∧Jf s'.gens) s₁) :
 WalkO q loose XP YP l.row.toRowW d [] (fun f vs=>MI f vs):=by
 intro w s₀ s₁ mg mb G Y fa o pm cd doc dV kV ho hd hcd hD hmg hg args vals as hpre hlay hrd hwl hlo
 obtain rfl:dV=.none:=Dflts.none hD hdf
 obtain rfl:kV=.none:=Dflts.noKw hD
 obtain ⟨a,vs,ns,rfl,rfl,hobj,hints,hlen⟩:=pk hn hpre hwl
 refine enter_call (Ii (call w s₀ s₁ mg mb fa o pm cd doc a vs ns G Y ho (fd_plain hd) hcd hmg hobj hints hlen hg) fun r s' hq=>?_)
 obtain ⟨rfl,h2,h3,h4⟩:=hq
 exact ⟨.inl ⟨.bool true,.bool true,[],rfl,fun _=>rfl,.bool true,pp l _,fun _=>⟨Hs,fun _ hm=>(nomatch hm)⟩⟩,h2,h3,h4⟩
section
variable {prog:Program} {w:w_} {A:u_} {E:Value→c_→Prop} {s:c_} {K:Frag}
def Dt (h:Heap) (L d:Addr):List (Addr×Obj):=(g_ h.objs.size).filterMap fun a=>if a=L∨a=d then none else (h.get? a).map fun o=>(a,o)
end
end Att
namespace L2
open PySem PySem.Spec PyProof.Rows
theorem cZ:∀ {vs:List Value} {ns:List Int},Ln vs ns→Vals (ns.map V.int) vs
 | _,_,.nil=>.nil
 | _,_,.cons n t h=>.cons ⟨t,rfl⟩ (cZ h)
def BX (H:Hp):Prop:=∀ b,H b=none∨∃ o xs,H b=some (.frz o (.lst xs))
theorem se {P:Program} {w:w_} {K:ck} {mg mb:Str→Option Value} {CX:CXT} {k:Nat} {fa a:Addr} {fd:FL} {x:Str} {sp:Sp} {s₁:c_} {vs:List Value} {ns:List Int}
 (KX:K.In s₁.heap) (hns:s₁.heap.Ns EA mg) (hb:s₁.heap.Ns LF mb) (hbb:∀ x:Str,x≠"__name__"→mb x=F9 x) (hlim:s₁.heap.NoLimit) (hg:s₁.gens=#[])
 (ha:s₁.heap.get? a=some { cls:=.type "list",data:=.seq vs.toArray }) (hi:Ln vs ns) (hl:ns.length≤sizeLine) (hr:Room k Li)
 (F:∀ base:Heap,K.In base→base.Ns EA mg→FnOk P w K mg base CX k fa fd [x] sp) (hbind:∀ (s:c_) (u:Value),KB s fd ⟨[u],[]⟩ [(x,u)])
 (hsp:∀ H:Hp,BX H→SqL K H a (ns.map V.int)→sp [.ref a] H (fun v _=>v=.bl true) fun _ _ _=>False)
 (hCX:∀ H e s',CX [] H s₁ (fun _ _ _=>False) e s'→False) :
 Jd (s_ P w) Li (.call (.ref fa) ⟨[.ref a],[]⟩) (fun r s'=>r=.ok (.ret (.bool true))∧OldK s₁.heap s'.heap∧s'.os=s₁.os∧Jf s'.gens) s₁:=by
 have rv:=cZ hi
 have lenV:=hi.length
 have core:∀ H:Hp,BX H→SqL K H a (ns.map V.int)→HOk P w H s₁.heap→(∀ b,H b≠none→b=a)→(H a≠none→K.lookup a=none) →
  Jd (s_ P w) Li (.call (.ref fa) ⟨[.ref a],[]⟩) (fun r s'=>r=.ok (.ret (.bool true))∧OldK s₁.heap s'.heap∧s'.os=s₁.os∧Jf s'.gens) s₁:=by
  intro H hO hS hok hA hK
  have base_of:∀ {b:Addr} {o:Obj},s₁.heap.get? b=some o→H b=none→(rT s₁.heap H).get? b=some o:=fun e n=>rV e n
  have noA:∀ {b:Addr} {o:Obj} {es:Array DictEntry} {ep:Nat},s₁.heap.get? b=some o→o.data=.dict es ep→H b=none:=fun {b o es ep} e d=>by
   cases q:H b with
   | none=>rfl
   | some u =>
    have e':b=a:=hA b (by rw [q]; simp)
    subst e'
    rw [ha] at e; cases e
    have d':Data.seq vs.toArray _=Ll es ep:=d
    cases d'
  have nsK:∀ {b:Addr} {m:Str→Option Value},s₁.heap.Ns b m→(rT s₁.heap H).Ns b m:=fun {b m} ⟨o,es,ep,e,d,r⟩=>⟨o,es,ep,base_of e (noA e d),d,r⟩
  have hKb:K.In (rT s₁.heap H):=fun b o e=>base_of (KX b o e) (by
   cases q:H b with
   | none=>rfl
   | some u =>
    have e':b=a:=hA b (by rw [q]; simp)
    subst e'
    rw [hK (by rw [q]; simp)] at e; cases e)
  have hM:Mod K mg (rT s₁.heap H):=⟨hKb,nsK hns,⟨mb,nsK hb,hbb⟩,let ⟨mc,h1,h2⟩:=hlim; ⟨mc,nsK h1,h2⟩⟩
  have e0:Env0 P w K mg (rT s₁.heap H) Li [] s₁ H:=⟨rfl,hM,fun b o e=>vq e,HB (oI _ _),trivial,fun b hb=>absurd (show b∈([]:List Addr) from hb) (by simp),hok,.of_eq hg⟩
  refine Ii ((F _ hKb (nsK hns)).run Li [] s₁ H ⟨[.ref a],[]⟩ [.ref a] [.ref a] _ _ hr e0 (hbind s₁ (.ref a)) (.cons rfl .nil) (hsp H hO hS)) fun r s' h=>?_
  cases r with
  | error e=>exact (hCX H e s' h).elim
  | ok fl =>
   cases fl with
   | next=>exact Fu h
   | brk=>exact Fu h
   | cont=>exact Fu h
   | ret u =>
    obtain ⟨v,H',os,bare,un,hok',r',q⟩:=h
    have q':v=.bl true:=q
    subst q'
    obtain rfl:u=F1 true:=r'
    refine ⟨rfl,OldK.of_keep fun b o e=>?_,os,bare⟩
    cases q:H b with
    | none=>exact un.keep b o e q (by intro z; exact absurd (show b∈([]:List Addr) from z) (by simp)) (by simp)
    | some u =>
     rcases hO b with z | ⟨ob,xs,z⟩
     · rw [q] at z; cases z
     · have z2:=un.frzs b ob _ z
       obtain ⟨e1,_⟩:=hok b _ z
       obtain ⟨e2,_⟩:=hok' b _ z2
       rw [e] at e1; cases e1
       exact e2
 cases hk:K.lookup a with
 | some o =>
  have e:=KX a o hk
  rw [ha] at e
  cases e
  refine core (fun _=>none) (fun _=>.inl rfl) (.inr ⟨_,vs.toArray,_,hk,rfl,rfl,rfl,by rw [x_,lenV]; exact hl,by simpa using rv⟩) (fun b u z=>by have z':(none:Option HO)=some u:=z; cases z') (fun b z=>absurd rfl z) fun z=>absurd rfl z
 | none =>
  refine core (fun b=>if b=a then some (.frz { cls:=.type "list",data:=.seq vs.toArray } (.lst (ns.map V.int))) else none) (fun b=>?_) (.inl (.inr ⟨{ cls:=.type "list",data:=.seq vs.toArray },if_pos rfl⟩)) (fun b u z=>?_) (fun b z=>?_) fun _=>hk
  · by_cases hb:b=a
    · exact .inr ⟨_,_,if_pos hb⟩
    · exact .inl (if_neg hb)
  · by_cases hb:b=a
    · have z':=(if_pos hb).symm.trans z
      cases z'
      subst hb
      exact ⟨ha,by rw [Ey]; exact hl,vs,_,rv,ha⟩
    · have z':=(if_neg hb).symm.trans z
      cases z'
  · by_cases hb:b=a
    · exact hb
    · exact absurd (if_neg hb) z
theorem walk_of {l:KN} {n k:Nat} {q:Program} {loose:List Str} {XP:(Str→Option Value)→Heap→Prop} {YP:w_→Heap→Prop} {d:DefRec} {K:K5→ck} {CX:w_→CXT} {sp:w_→Sp} {x:Str}
 (hn:l.most=some n) (hn2:n≤sizeLine) (hdf:d.params.defaults=[]) (hr:Room k Li)
 (hY:∀ (w:w_) (h:Heap),YP w h→(K w.params).In h)
 (F:∀ (w:w_) (mg:Str→Option Value) (fa:Addr) (h:Heap),(K w.params).In h→h.Ns EA mg→mg d.name=some (.ref fa) →
   ∃ fd:FL,(∀ (s:c_) (u:Value),KB s fd ⟨[u],[]⟩ [(x,u)]) ∧
    ∀ base:Heap,(K w.params).In base→base.Ns EA mg→FnOk l.prog w (K w.params) mg base (CX w) k fa fd [x] (sp w))
 (hsp:∀ (w:w_) (H:Hp) (a:Addr) (ns:List Int),ns.length≤n→BX H→SqL (K w.params) H a (ns.map V.int)→sp w [.ref a] H (fun v _=>v=.bl true) fun _ _ _=>False)
 (hCX:∀ (w:w_) (H:Hp) (s:c_) (e:Value) (s':c_),CX w [] H s (fun _ _ _=>False) e s'→False) :
 MW q loose XP YP l.row.toRowW d [] (fun f vs=>MI f vs):=by
 refine Att.attach_call hn hdf fun w s₀ s₁ mg mb fa o pm cd doc a vs ns G Y ho hd hcd hmg hobj hints hlen hg=>?_
 have KX:=hY w _ Y
 obtain ⟨fd,hb,hF⟩:=F w mg fa _ KX G.T.g hmg
 exact se KX G.T.g G.T.b G.T.builtins G.T.nolimit hg hobj hints (EM hlen hn2) hr hF hb (fun H hO hS=>hsp w H a ns hlen hO hS) fun H e s'=>hCX w H s₁ e s'
def eI (s:Stmt):Arguments:=match s with
 | .FunctionDef _ a _ _ _ _ _ _ _ _=>a
 | _=>{ posonlyargs:=[],args:=[],vararg:=none,kwonlyargs:=[],kw_defaults:=[],kwarg:=none,defaults:=[] }
def cr (s:Stmt):List Stmt:=match s with
 | .FunctionDef _ _ b _ _ _ _ _ _ _=>b
 | _=>[]
def aJ (s:Stmt):Scope:=match s with
 | .FunctionDef _ _ _ _ _ _ sc _ _ _=>sc
 | _=>{ kind:=.function,names:=[],isGenerator:=false,isCoroutine:=false }
abbrev CX0:CXT:=fun _ _ _ _ _ _=>False
abbrev E0:XK:=fun _ _ _=>False
theorem yC {X:Cx}:o8 CX0 X E0:=fun _ _ _ _ _ _ _ h=>h.elim
structure Fun (K:ck) (x qual:Str) (st:Stmt) (f:Addr) (fd:FL):Prop where
 ex:∃ (oc:Value) (od:Option Addr) (kV doc pm:Value) (an:Option Addr) (cdv ct:Value) (osl:Array (Option Value)),
  fd=G_ x qual (eI st) (cr st) (aJ st) .none kV doc pm an cdv ct∧K.lookup f=some ⟨oc,od,.func fd,osl⟩∧Jn K cdv qual=true
 kp:F0 K (.ref f)=true
section
variable {P:Program} {w:w_} {K:ck} {mg:Str→Option Value} {base:Heap}
theorem Fun.ok {x qual:Str} {st:Stmt} {f:Addr} {fd:FL} {N ps:List Str} {k:Nat} {sp:Sp} (F:Fun K x qual st f fd) (S:eG N ps (aJ st)) (len:∀ vs H Q E,sp vs H Q E→vs.length=ps.length)
 (hbody:∀ (cdv:Value) (A:u_) (outer:List Env) (s:c_) (H:Hp) (vs:List V) (Q:VK) (E:XK),Room k (A.deeper (JA qual (aJ st) s.heap.objs.size f cdv))→sp vs H Q E →
   ∃ t,PSs (r8 CX0 P w K mg base N qual (aJ st) f cdv A outer s H E).nox (cr st) t∧t { nx:=fun _ H'=>Q .non H',rt:=Q } (start N vs) H):FnOk P w K mg base CX0 (k + 1) f fd ps sp:=by
 obtain ⟨oc,od,kV,doc,pm,an,cdv,ct,osl,rfl,lk,hcd⟩:=F.ex
 refine BU lk hcd S len fun A outer s H vs Q E hr hsp=>?_
 obtain ⟨t,h,q⟩:=hbody cdv A outer s H vs Q E hr hsp
 exact ⟨t,h.nox,q⟩
theorem Fun.binds {x qual:Str} {st:Stmt} {f:Addr} {fd:FL} {ps:List Str} (F:Fun K x qual st f fd)
 (h:∀ (kV doc pm:Value) (an:Option Addr) (cdv ct:Value) (us:List Value),us.length=ps.length→bindArgs (G_ x qual (eI st) (cr st) (aJ st) .none kV doc pm an cdv ct) ⟨us,[]⟩=pure (ps.zip us)):Binds K fd ps []:=by
 obtain ⟨oc,od,kV,doc,pm,an,cdv,ct,osl,rfl,lk,hcd⟩:=F.ex
 exact .all (h kV doc pm an cdv ct)
theorem yD {x qual:Str} {st:Stmt} {f:Addr} {oc:Value} {od an:Option Addr} {osl:Array (Option Value)} {kV doc pm cdv ct:Value} (l:K.lookup f=some ⟨oc,od,.func (G_ x qual (eI st) (cr st) (aJ st) .none kV doc pm an cdv ct),osl⟩)
 (c:Jn K cdv qual=true) (k:F0 K (.ref f)=true):Fun K x qual st f (G_ x qual (eI st) (cr st) (aJ st) .none kV doc pm an cdv ct):=⟨⟨oc,od,kV,doc,pm,an,cdv,ct,osl,rfl,l,c⟩,k⟩
end
section
variable {X:Cx}
end
theorem uE {A B:Prop} (h:B):if false=true then A else B:=by
 rw [if_neg p_]
 exact h
theorem uF {A B:Prop} (h:A):if true=true then A else B:=by
 rw [if_pos rfl]
 exact h
def Same (H H':Hp):Prop:=∀ b o,H b=some o→H' b=some o
theorem Same.refl (H:Hp):Same H H:=fun _ _ h=>h
theorem Same.trans {H H1 H2:Hp} (a:Same H H1) (b:Same H1 H2):Same H H2:=fun c o h=>b c o (a c o h)
theorem Same.free {H H':Hp} (e:Same H H') {l:Addr} (h:H' l=Fx):H l=Fx:=by
 cases q:H l with
 | none=>rfl
 | some o =>
  rw [e l o q] at h
  cases h
theorem Same.seq {K:ck} {H H':Hp} {a:Addr} {xs:List V} (e:Same H H') (h:SqL K H a xs):SqL K H' a xs:=by
 rcases h with (h | ⟨o,h⟩) | h
 · exact .inl (.inl (e _ _ h))
 · exact .inl (.inr ⟨o,e _ _ h⟩)
 · exact .inr h
end L2
namespace FD
open PySem PySem.Spec PyProof.Rows L2
inductive Dv where
 | non | bl (b:Bool) | int (i:Int) | str (x:Str) | tup (xs:List Dv) | lst (xs:List Dv) | scr (ns:List Int) | exn (c:Nat)
def xnm:Nat→Str
 | 0=>"NoName" | 1=>"NoTable" | 2=>"NoPath" | 3=>"NoAsk" | 4=>"NoNote" | 5=>"NoJar" | 6=>"NoNumber" | 7=>"NoText" | 8=>"NoStep" | _=>"JarError"
mutual
def Rep (K:ck) (H:Hp):Dv→V→Prop
 | .non,v=>v=.non
 | .bl b,v=>v=.bl b
 | .int i,v=>v=.int i
 | .str x,v=>v=.str x
 | .tup ds,v=>∃ a xs,v=.ref a∧H a=some (.tup xs)∧Reps K H ds xs
 | .lst ds,v=>∃ a xs,v=.ref a∧H a=some (.lst xs)∧Reps K H ds xs
 | .scr ns,v=>∃ a,v=.ref a∧SqL K H a (ns.map V.int)
 | .exn c,v=>∃ a o u C,v=.ref a∧H a=some (.frz o u)∧o.cls=.ref C∧GO K EA (xnm c)=some (some (.ref C))
def Reps (K:ck) (H:Hp):List Dv→List V→Prop
 | [],vs=>vs=[]
 | d :: ds,vs=>∃ v us,vs=v :: us∧Rep K H d v∧Reps K H ds us
end
section
variable {K:ck} {H H':Hp}
mutual
theorem Rep.mono (e:Same H H'):∀ (d:Dv) (v:V),Rep K H d v→Rep K H' d v
 | .non,_,h=>h
 | .bl _,_,h=>h
 | .int _,_,h=>h
 | .str _,_,h=>h
 | .tup ds,v,h=>by
  obtain ⟨a,xs,r,h,q⟩:∃ a xs,v=.ref a∧H a=some (.tup xs)∧Reps K H ds xs:=h
  exact ⟨a,xs,r,e _ _ h,Reps.mono e ds xs q⟩
 | .lst ds,v,h=>by
  obtain ⟨a,xs,r,h,q⟩:∃ a xs,v=.ref a∧H a=some (.lst xs)∧Reps K H ds xs:=h
  exact ⟨a,xs,r,e _ _ h,Reps.mono e ds xs q⟩
 | .scr ns,v,h=>by
  obtain ⟨a,r,h⟩:∃ a,v=.ref a∧SqL K H a (ns.map V.int):=h
  exact ⟨a,r,e.seq h⟩
 | .exn c,v,h=>by
  obtain ⟨a,o,u,C,r,h,q⟩:∃ a o u C,v=.ref a∧H a=some (.frz o u)∧o.cls=.ref C∧GO K EA (xnm c)=some (some (.ref C)):=h
  exact ⟨a,o,u,C,r,e _ _ h,q⟩
theorem Reps.mono (e:Same H H'):∀ (ds:List Dv) (vs:List V),Reps K H ds vs→Reps K H' ds vs
 | [],_,h=>h
 | d :: ds,vs,h=>by
  obtain ⟨v,us,r,h,q⟩:∃ v us,vs=v :: us∧Rep K H d v∧Reps K H ds us:=h
  exact ⟨v,us,r,Rep.mono e d v h,Reps.mono e ds us q⟩
end
theorem Reps.nil:Reps K H [] []:=rfl
theorem Reps.cons {d ds v vs} (h:Rep K H d v) (t:Reps K H ds vs):Reps K H (d :: ds) (v :: vs):=⟨v,vs,rfl,h,t⟩
theorem Reps.length:∀ {ds:List Dv} {vs:List V},Reps K H ds vs→vs.length=ds.length
 | [],vs,h=>by cases (show vs=[] from h); rfl
 | d :: ds,vs,h=>by
  obtain ⟨v,us,r,_,q⟩:∃ v us,vs=v :: us∧Rep K H d v∧Reps K H ds us:=h
  subst r
  show us.length + 1=ds.length + 1
  rw [Reps.length q]
theorem Reps.get:∀ {ds:List Dv} {vs:List V} {i:Nat} {v:V},Reps K H ds vs→vs[i]?=some v→∃ d,ds[i]?=some d∧Rep K H d v
 | [],vs,i,v,h,e=>by cases (show vs=[] from h); simp at e
 | d :: ds,vs,i,v,h,e=>by
  obtain ⟨v',us,r,h',q⟩:∃ v us,vs=v :: us∧Rep K H d v∧Reps K H ds us:=h
  subst r
  cases i with
  | zero=>simp at e; subst e; exact ⟨d,rfl,h'⟩
  | succ i =>
   obtain ⟨d',e',r'⟩:=Reps.get (i:=i) q (by simpa using e)
   exact ⟨d',by simpa using e',r'⟩
theorem Reps.get':∀ {ds:List Dv} {vs:List V} {i:Nat} {d:Dv},Reps K H ds vs→ds[i]?=some d→∃ v,vs[i]?=some v∧Rep K H d v
 | [],vs,i,v,h,e=>by simp at e
 | d :: ds,vs,i,d0,h,e=>by
  obtain ⟨v',us,r,h',q⟩:∃ v us,vs=v :: us∧Rep K H d v∧Reps K H ds us:=h
  subst r
  cases i with
  | zero=>simp at e; subst e; exact ⟨v',rfl,h'⟩
  | succ i =>
   obtain ⟨d',e',r'⟩:=Reps.get' (i:=i) q (by simpa using e)
   exact ⟨d',by simpa using e',r'⟩
theorem Reps.append:∀ {ds es:List Dv} {vs us:List V},Reps K H ds vs→Reps K H es us→Reps K H (ds ++ es) (vs ++ us)
 | [],es,vs,us,h,q=>by cases (show vs=[] from h); exact q
 | d :: ds,es,vs,us,h,q=>by
  obtain ⟨v',vs',r,h',t⟩:∃ v us,vs=v :: us∧Rep K H d v∧Reps K H ds us:=h
  subst r
  exact ⟨v',vs' ++ us,rfl,h',Reps.append t q⟩
theorem Reps.take:∀ {ds:List Dv} {vs:List V} (n:Nat),Reps K H ds vs→Reps K H (ds.take n) (vs.take n)
 | ds,vs,0,_=>by simp [Reps]
 | [],vs,n + 1,h=>by cases (show vs=[] from h); exact rfl
 | d :: ds,vs,n + 1,h=>by
  obtain ⟨v',vs',r,h',t⟩:∃ v us,vs=v :: us∧Rep K H d v∧Reps K H ds us:=h
  subst r
  exact ⟨v',vs'.take n,rfl,h',Reps.take n t⟩
theorem Reps.drop:∀ {ds:List Dv} {vs:List V} (n:Nat),Reps K H ds vs→Reps K H (ds.drop n) (vs.drop n)
 | ds,vs,0,h=>h
 | [],vs,n + 1,h=>by cases (show vs=[] from h); exact rfl
 | d :: ds,vs,n + 1,h=>by
  obtain ⟨v',vs',r,h',t⟩:∃ v us,vs=v :: us∧Rep K H d v∧Reps K H ds us:=h
  subst r
  exact Reps.drop n t
theorem Rep.lstE {ds:List Dv} {v:V} (h:Rep K H (.lst ds) v):∃ a xs,v=.ref a∧H a=some (.lst xs)∧Reps K H ds xs:=h
theorem Rep.tupE {ds:List Dv} {v:V} (h:Rep K H (.tup ds) v):∃ a xs,v=.ref a∧H a=some (.tup xs)∧Reps K H ds xs:=h
theorem Rep.exnE {c:Nat} {v:V} (h:Rep K H (.exn c) v):∃ a o u C,v=.ref a∧H a=some (.frz o u)∧o.cls=.ref C∧GO K EA (xnm c)=some (some (.ref C)):=h
theorem Rep.scrE {ns:List Int} {v:V} (h:Rep K H (.scr ns) v):∃ a,v=.ref a∧SqL K H a (ns.map V.int):=h
end
theorem aq {H:Hp} {p:Addr} (h:H p=none) (o:HO):Same H (upd H p o):=fun b u q=>by rw [am (ak q h)]; exact q
abbrev Ev:=List (Option Dv)
structure Envs (K:ck) (H:Hp) (σ:L2.St) (ρ:Ev):Prop where
 len:σ.length=ρ.length
 at':∀ (i:Nat) (d:Dv),ρ[i]?=some (some d)→∃ v,σ[i]?=some (some v)∧Rep K H d v
theorem Envs.mono {K:ck} {H H':Hp} {σ:L2.St} {ρ:Ev} (E:Envs K H σ ρ) (e:Same H H'):Envs K H' σ ρ :=
 ⟨E.len,fun i d h=>let ⟨v,h1,h2⟩:=E.at' i d h; ⟨v,h1,Rep.mono e d v h2⟩⟩
theorem Envs.set {K:ck} {H:Hp} {σ:L2.St} {ρ:Ev} {i:Nat} {d:Dv} {v:V} (E:Envs K H σ ρ) (r:Rep K H d v):Envs K H (σ.set i (some v)) (ρ.set i (some d)):=by
 refine ⟨by rw [EV,EV]; exact E.len,fun j d' h=>?_⟩
 by_cases hj:i=j
 · subst hj
   by_cases hl:i < ρ.length
   · rw [ED hl] at h
     cases h
     exact ⟨v,by rw [ED (by rw [E.len]; exact hl)],r⟩
   · rw [EI (by rw [EV]; omega)] at h
     cases h
 · rw [v_ hj] at h
   rw [v_ hj]
   exact E.at' j d' h
def fgt (js:List Nat) (ρ:Ev):Ev:=js.foldl (fun r j=>r.set j none) ρ
theorem Envs.fgt1 {K:ck} {H:Hp} {σ:L2.St} {ρ:Ev} (j:Nat) (E:Envs K H σ ρ):Envs K H σ (ρ.set j none):=by
 refine ⟨by rw [EV]; exact E.len,fun i d h=>?_⟩
 by_cases hj:j=i
 · subst hj
   by_cases hl:j < ρ.length
   · rw [ED hl] at h
     cases h
   · rw [EI (by rw [EV]; omega)] at h
     cases h
 · rw [v_ hj] at h
   exact E.at' i d h
theorem Envs.fgt {K:ck} {H:Hp} {σ:L2.St}:∀ (js:List Nat) {ρ:Ev},Envs K H σ ρ→Envs K H σ (fgt js ρ)
 | [],_,E=>E
 | j :: js,_,E=>Envs.fgt js (E.fgt1 j)
inductive Rs (α:Type) where
 | ok (a:α)
 | exc (c:Nat)
inductive Fl where
 | nx (ρ:Ev)
 | rt (d:Dv)
 | exc (c:Nat)
def Fly (N:Addr→Prop) (H:Hp) (e:Addr) (cls:Value) (h:Heap):Prop:=H e=none∧N e∧∃ oe vs a0,h.get? e=some oe∧oe.cls=cls∧oe.data=.fields vs∧vs[0]?=some a0 ∧
 (vs[1]?=some .none∨∃ T oT ts,vs[1]?=some (.ref T)∧T≠e∧H T=none∧N T∧h.get? T=some oT∧oT.data=.fields ts∧ts[3]?=some .none)
def Ec (X:Cx) (a:Addr):Prop:=X.s₀.heap.get? a=none∧∀ p∈X.pn,p.1≠a
def BY (X:Cx) (H:Hp) (c:Nat) (e:Value) (s:c_):Prop:=∃ a C,e=.ref a∧GO X.K EA (xnm c)=some (some (.ref C))∧Fly (Ec X) H a (.ref C) s.heap
def XW (X:Cx) (c:Nat) (H:Hp):Prop:=∀ pins σ H' s e,Same H H'→Inv X pins σ H' s→BY X H' c e s→X.xe e s
theorem XW.mono {X:Cx} {c:Nat} {H H':Hp} (h:XW X c H) (e:Same H H'):XW X c H':=fun pins σ H1 s x e1 I q=>h pins σ H1 s x (e.trans e1) I q
def Out (X:Cx) (H:Hp) (o:Option (Rs Dv)) (Q:VK):Prop:=match o with
 | none=>False
 | some (.exc c)=>XW X c H
 | some (.ok d)=>∀ v H',Same H H'→Rep X.K H' d v→Q v H'
def OutB (X:Cx) (H:Hp) (o:Option (Rs Bool)) (Q:Bool→Hp→Prop):Prop:=match o with
 | none=>False
 | some (.exc c)=>XW X c H
 | some (.ok d)=>∀ H',Same H H'→Q d H'
def OutA (X:Cx) (H:Hp) (o:Option (Rs (List Dv))) (Q:List V→Hp→Prop):Prop:=match o with
 | none=>False
 | some (.exc c)=>XW X c H
 | some (.ok ds)=>∀ vs H',Same H H'→Reps X.K H' ds vs→Q vs H'
def OutS (X:Cx) (H:Hp) (o:Option Fl) (D:oB):Prop:=match o with
 | none=>False
 | some (.exc c)=>XW X c H
 | some (.rt d)=>∀ v H',Same H H'→Rep X.K H' d v→D.rt v H'
 | some (.nx ρ)=>∀ σ H',Same H H'→Envs X.K H' σ ρ→D.nx σ H'
def bnd {α β:Type} (o:Option (Rs α)) (k:α→Option (Rs β)):Option (Rs β):=match o with
 | none=>none
 | some (.exc c)=>some (.exc c)
 | some (.ok a)=>k a
def dk {α:Type} (o:Option (Rs α)) (k:α→Option Fl):Option Fl:=match o with
 | none=>none
 | some (.exc c)=>some (.exc c)
 | some (.ok a)=>k a
def sq (o:Option Fl) (k:Ev→Option Fl):Option Fl:=match o with
 | some (.nx ρ)=>k ρ
 | o=>o
section
variable {X:Cx} {H H':Hp} {Q:VK} {QB:Bool→Hp→Prop} {QA:List V→Hp→Prop} {D:oB}
theorem Out.mono (e:Same H H'):∀ {o:Option (Rs Dv)},Out X H o Q→Out X H' o Q
 | none,h=>h
 | some (.exc _),h=>XW.mono h e
 | some (.ok _),h=>fun v H1 e1 r=>h v H1 (e.trans e1) r
theorem OutB.mono (e:Same H H'):∀ {o:Option (Rs Bool)},OutB X H o QB→OutB X H' o QB
 | none,h=>h
 | some (.exc _),h=>XW.mono h e
 | some (.ok _),h=>fun H1 e1=>h H1 (e.trans e1)
theorem OutA.mono (e:Same H H'):∀ {o:Option (Rs (List Dv))},OutA X H o QA→OutA X H' o QA
 | none,h=>h
 | some (.exc _),h=>XW.mono h e
 | some (.ok _),h=>fun v H1 e1 r=>h v H1 (e.trans e1) r
theorem OutS.mono (e:Same H H'):∀ {o:Option Fl},OutS X H o D→OutS X H' o D
 | none,h=>h
 | some (.exc _),h=>XW.mono h e
 | some (.rt _),h=>fun v H1 e1 r=>h v H1 (e.trans e1) r
 | some (.nx _),h=>fun v H1 e1 r=>h v H1 (e.trans e1) r
theorem Out.bind {o:Option (Rs Dv)} {k:Dv→Option (Rs Dv)} {P:VK} (h:Out X H (bnd o k) Q) (hp:∀ d v H',Same H H'→Rep X.K H' d v→Out X H' (k d) Q→P v H'):Out X H o P:=by
 match o,h with
 | some (.exc _),h=>exact h
 | some (.ok d),h=>exact fun v H1 e r=>hp d v H1 e r (Out.mono e h)
theorem Out.bindB {o:Option (Rs Dv)} {k:Dv→Option (Rs Bool)} {P:VK} (h:OutB X H (bnd o k) QB) (hp:∀ d v H',Same H H'→Rep X.K H' d v→OutB X H' (k d) QB→P v H'):Out X H o P:=by
 match o,h with
 | some (.exc _),h=>exact h
 | some (.ok d),h=>exact fun v H1 e r=>hp d v H1 e r (OutB.mono e h)
theorem Out.bindA {o:Option (Rs Dv)} {k:Dv→Option (Rs (List Dv))} {P:VK} (h:OutA X H (bnd o k) QA) (hp:∀ d v H',Same H H'→Rep X.K H' d v→OutA X H' (k d) QA→P v H'):Out X H o P:=by
 match o,h with
 | some (.exc _),h=>exact h
 | some (.ok d),h=>exact fun v H1 e r=>hp d v H1 e r (OutA.mono e h)
theorem Out.bindS {o:Option (Rs Dv)} {k:Dv→Option Fl} {P:VK} (h:OutS X H (dk o k) D) (hp:∀ d v H',Same H H'→Rep X.K H' d v→OutS X H' (k d) D→P v H'):Out X H o P:=by
 match o,h with
 | some (.exc _),h=>exact h
 | some (.ok d),h=>exact fun v H1 e r=>hp d v H1 e r (OutS.mono e h)
theorem OutB.bind {o:Option (Rs Bool)} {k:Bool→Option (Rs Dv)} {P:Bool→Hp→Prop} (h:Out X H (bnd o k) Q) (hp:∀ b H',Same H H'→Out X H' (k b) Q→P b H'):OutB X H o P:=by
 match o,h with
 | some (.exc _),h=>exact h
 | some (.ok d),h=>exact fun H1 e=>hp d H1 e (Out.mono e h)
theorem OutB.bindB {o:Option (Rs Bool)} {k:Bool→Option (Rs Bool)} {P:Bool→Hp→Prop} (h:OutB X H (bnd o k) QB) (hp:∀ b H',Same H H'→OutB X H' (k b) QB→P b H'):OutB X H o P:=by
 match o,h with
 | some (.exc _),h=>exact h
 | some (.ok d),h=>exact fun H1 e=>hp d H1 e (OutB.mono e h)
theorem OutB.bindS {o:Option (Rs Bool)} {k:Bool→Option Fl} {P:Bool→Hp→Prop} (h:OutS X H (dk o k) D) (hp:∀ b H',Same H H'→OutS X H' (k b) D→P b H'):OutB X H o P:=by
 match o,h with
 | some (.exc _),h=>exact h
 | some (.ok d),h=>exact fun H1 e=>hp d H1 e (OutS.mono e h)
theorem OutA.bind {o:Option (Rs (List Dv))} {k:List Dv→Option (Rs Dv)} {P:List V→Hp→Prop} (h:Out X H (bnd o k) Q) (hp:∀ ds vs H',Same H H'→Reps X.K H' ds vs→Out X H' (k ds) Q→P vs H'):OutA X H o P:=by
 match o,h with
 | some (.exc _),h=>exact h
 | some (.ok d),h=>exact fun v H1 e r=>hp d v H1 e r (Out.mono e h)
theorem OutA.bindA {o:Option (Rs (List Dv))} {k:List Dv→Option (Rs (List Dv))} {P:List V→Hp→Prop} (h:OutA X H (bnd o k) QA) (hp:∀ ds vs H',Same H H'→Reps X.K H' ds vs→OutA X H' (k ds) QA→P vs H'):OutA X H o P:=by
 match o,h with
 | some (.exc _),h=>exact h
 | some (.ok d),h=>exact fun v H1 e r=>hp d v H1 e r (OutA.mono e h)
end
abbrev FnE:=Ev→Option (Rs Dv)
abbrev FnB:=Ev→Option (Rs Bool)
abbrev FnA:=Ev→Option (Rs (List Dv))
abbrev FnS:=Ev→Option Fl
def tF (X:Cx) (f:FnE):TE:=fun σ H Q=>∃ ρ,Envs X.K H σ ρ∧Out X H (f ρ) Q
def tT (X:Cx) (f:FnB):TT:=fun σ H Q=>∃ ρ,Envs X.K H σ ρ∧OutB X H (f ρ) Q
def tA (X:Cx) (f:FnA):TA:=fun σ H Q=>∃ ρ,Envs X.K H σ ρ∧OutA X H (f ρ) Q
def tS (X:Cx) (f:FnS):TS:=fun D σ H=>∃ ρ,Envs X.K H σ ρ∧OutS X H (f ρ) D
structure FE (X:Cx) (e:Expr) (f:FnE):Prop where
 h:PE X e (tF X f)
structure FT (X:Cx) (e:Expr) (f:FnB):Prop where
 h:PT X e (tT X f)
structure FW (X:Cx) (e:Expr) (f:FnB):Prop where
 h:PW X e (tT X f)
structure FA (X:Cx) (es:List Expr) (f:FnA):Prop where
 h:PA X es (tA X f)
structure FS (X:Cx) (st:Stmt) (f:FnS):Prop where
 h:PS X st (tS X f)
structure FSs (X:Cx) (st:List Stmt) (f:FnS):Prop where
 h:PSs X st (tS X f)
section
variable {X:Cx} {a b c e:Expr} {es:List Expr} {fa fb fc:FnE} {pos:Pos}
theorem cv {t:TE} {f:FnE} (h:PE X e t) (w:∀ σ H Q ρ,Envs X.K H σ ρ→Out X H (f ρ) Q→t σ H Q):FE X e f :=
 ⟨fun pins s σ H Q I ⟨ρ,E,o⟩=>h pins s σ H Q I (w σ H Q ρ E o)⟩
theorem vJ {t:TT} {f:FnB} (h:PT X e t) (w:∀ σ H Q ρ,Envs X.K H σ ρ→OutB X H (f ρ) Q→t σ H Q):FT X e f :=
 ⟨fun pins s σ H Q I ⟨ρ,E,o⟩=>h pins s σ H Q I (w σ H Q ρ E o)⟩
theorem yE {t:TT} {f:FnB} (h:PW X e t) (w:∀ σ H Q ρ,Envs X.K H σ ρ→OutB X H (f ρ) Q→t σ H Q):FW X e f :=
 ⟨fun wh pins s σ H Q I ⟨ρ,E,o⟩=>h wh pins s σ H Q I (w σ H Q ρ E o)⟩
theorem la {st:Stmt} {t:TS} {f:FnS} (h:PS X st t) (w:∀ D σ H ρ,Envs X.K H σ ρ→OutS X H (f ρ) D→t D σ H):FS X st f :=
 ⟨fun pins s σ H D I ⟨ρ,E,o⟩=>h pins s σ H D I (w D σ H ρ E o)⟩
theorem uG {st:List Stmt} {t:TS} {f:FnS} (h:PSs X st t) (w:∀ D σ H ρ,Envs X.K H σ ρ→OutS X H (f ρ) D→t D σ H):FSs X st f :=
 ⟨fun pins s σ H D I ⟨ρ,E,o⟩=>h pins s σ H D I (w D σ H ρ E o)⟩
theorem FW.ft {f:FnB} (h:FW X e f):FT X e f:=⟨h.h _⟩
def ab (i:Nat):FnE:=fun ρ=>match ρ[i]? with
 | some (some d)=>some (.ok d)
 | _=>none
def fC (d:Dv):FnE:=fun _=>some (.ok d)
theorem yF (i:Nat) (h:PE X e (uy i)):FE X e (ab i):=cv h fun σ H Q ρ E o=>by
 unfold ab at o
 split at o
 · rename_i d hd
   obtain ⟨v,h1,h2⟩:=E.at' i d hd
   exact ⟨v,h1,o v H (.refl H) h2⟩
 · exact o.elim
theorem glb {x:Str} (h:X.env.kindOf x=some .globalImplicit):Gl X x:=h
theorem BZ (i:Nat) {x:Str} (hN:X.N[i]?=some x:=by kernel_rfl) (hv:X.env.scope.names.lookup x=some .local:=by kernel_rfl) (hd:(x == ("__debug__":Str))=false:=by kernel_rfl) (hcd:(x == ("__classdict__":Str))=false:=by kernel_rfl):FE X (.Name x pos) (ab i):=yF i (oK hN (.inl hv) hd hcd)
theorem B0 (i:Nat) {x:Str} (hN:X.N[i]?=some x:=by kernel_rfl) (hv:X.env.scope.names.lookup x=some .cell:=by kernel_rfl) (hd:(x == ("__debug__":Str))=false:=by kernel_rfl) (hcd:(x == ("__classdict__":Str))=false:=by kernel_rfl):FE X (.Name x pos) (ab i):=yF i (oK hN (.inr (.inl hv)) hd hcd)
theorem xR {d:Dv} {v:V} (h:PE X e (tC v)) (r:∀ K H,Rep K H d v):FE X e (fC d):=cv h fun _ H _ _ _ o=>o v H (.refl H) (r X.K H)
theorem yG {i j}:FE X (.Constant (.int i) j pos) (fC (.int i)):=xR x4 fun _ _=>rfl
theorem B1 {b j}:FE X (.Constant (.bool b) j pos) (fC (.bl b)):=xR Bz fun _ _=>rfl
theorem yH {j}:FE X (.Constant .none j pos) (fC .non):=xR x5 fun _ _=>rfl
theorem yI {x j}:FE X (.Constant (.str x) j pos) (fC (.str x)):=xR x8 fun _ _=>rfl
theorem vK {x:Str} {i:Int} {t:Tok} (hg:Gl X x) (hm:X.mg x=some (.int i t)) (hd:(x == ("__debug__":Str))=false:=by kernel_rfl):FE X (.Name x pos) (fC (.int i)):=xR (oM (v:=.int i) hg hm ⟨t,rfl⟩ hd) fun _ _=>rfl
theorem vL {x:Str} {i:Str} {t:Tok} (hg:Gl X x) (hm:X.mg x=some (.str i t)) (hd:(x == ("__debug__":Str))=false:=by kernel_rfl):FE X (.Name x pos) (fC (.str i)):=xR (oM (v:=.str i) hg hm ⟨t,rfl⟩ hd) fun _ _=>rfl
def f2 (g:Dv→Dv→Option (Rs Dv)) (fa fb:FnE):FnE:=fun ρ=>bnd (fa ρ) fun x=>bnd (fb ρ) fun y=>g x y
def GOp (X:Cx) (r:R2) (g:Dv→Dv→Option (Rs Dv)):Prop:=∀ dx dy x y H Q,Rep X.K H dx x→Rep X.K H dy y→Out X H (g dx dy) Q→r x y H Q
theorem two {r:R2} {g:Dv→Dv→Option (Rs Dv)} (hg:GOp X r g) {σ:L2.St} {H:Hp} {Q:VK} {ρ:Ev} (E:Envs X.K H σ ρ) (o:Out X H (f2 g fa fb ρ) Q):tOp r (tF X fa) (tF X fb) σ H Q :=
 ⟨ρ,E,Out.bind o fun dx x H1 e1 rx o1=>⟨ρ,E.mono e1,Out.bind o1 fun dy y H2 e2 ry o2=>hg dx dy x y H2 Q (Rep.mono e2 dx x rx) ry o2⟩⟩
theorem nH {op:Operator} {r:R2} {g:Dv→Dv→Option (Rs Dv)} (ho:OpR X (GN op) r) (hg:GOp X r g) (ha:FE X a fa) (hb:FE X b fb):FE X (.BinOp a op b pos) (f2 g fa fb) :=
 cv (BK ho ha.h hb.h) fun _ _ _ _ E o=>two hg E o
theorem jL {op:CmpOp} {r:R2} {g:Dv→Dv→Option (Rs Dv)} (ho:OpR X (EF op) r) (hg:GOp X r g) (ha:FE X a fa) (hb:FE X b fb) (hm:EN op b=false):FE X (.Compare a [op] [b] pos) (f2 g fa fb) :=
 cv (vz ho ha.h hb.h hm) fun _ _ _ _ E o=>two hg E o
def toB:Dv→Option (Rs Bool)
 | .bl b=>some (.ok b)
 | _=>none
def fB (f:FnE):FnB:=fun ρ=>bnd (f ρ) toB
theorem mw {H:Hp} {d:Dv} {v:V} {QB:Bool→Hp→Prop} (r:Rep X.K H d v) (o:OutB X H (toB d) QB):∃ k,v=.bl k∧QB k H:=by
 cases d with
 | bl b=>exact ⟨b,r,o H (.refl H)⟩
 | _=>exact o.elim
theorem eZ {op:CmpOp} {r:R2} {g:Dv→Dv→Option (Rs Dv)} (ho:OpR X (EF op) r) (hg:GOp X r g) (ha:FE X a fa) (hb:FE X b fb) (hm:EN op b=false):FT X (.Compare a [op] [b] pos) (fB (f2 g fa fb)) :=
 vJ (vA ho ha.h hb.h hm) fun σ H Q ρ E o=>by
  show tOp r (tF X fa) (tF X fb) σ H _
  refine two hg E ?_
  exact Out.bindB o fun d v H' e r o'=>mw r o'
theorem yJ (ha:FE X a fa) (he:∀ whole,isTrue a X.env whole=(do let v ← whole; standAt a.pos; MD [v] (truthy v)):=by intro _; kernel_rfl):FT X a (fB fa) :=
 vJ (ya ha.h he) fun σ H Q ρ E o=>⟨ρ,E,Out.bindB o fun d v H' e r o'=>mw r o'⟩
def oD (f g:FnB):FnB:=fun ρ=>bnd (f ρ) fun k=>if k then g ρ else some (.ok false)
def bOr (f g:FnB):FnB:=fun ρ=>bnd (f ρ) fun k=>if k then some (.ok true) else g ρ
def fW (f:FnB):FnB:=fun ρ=>bnd (f ρ) fun k=>some (.ok (!k))
variable {ga gb:FnB} {rest:List Expr}
theorem vM (ha:FT X a ga):FW X (.BoolOp .And [a] pos) ga:=⟨vw ha.h⟩
theorem yK (ha:FT X a ga):FW X (.BoolOp .Or [a] pos) ga:=⟨yb ha.h⟩
theorem uH (ha:FT X a ga) (hb:FW X (.BoolOp .And (b :: rest) pos) gb):FW X (.BoolOp .And (a :: b :: rest) pos) (oD ga gb) :=
 yE (yc ha.h hb.h) fun σ H Q ρ E o=>⟨ρ,E,OutB.bindB o fun k H1 e o'=>by
  cases k with
  | true=>exact uF ⟨ρ,E.mono e,o'⟩
  | false=>exact uE (o' H1 (.refl H1))⟩
theorem yL (ha:FT X a ga) (hb:FW X (.BoolOp .Or (b :: rest) pos) gb):FW X (.BoolOp .Or (a :: b :: rest) pos) (bOr ga gb) :=
 yE (BA ha.h hb.h) fun σ H Q ρ E o=>⟨ρ,E,OutB.bindB o fun k H1 e o'=>by
  cases k with
  | true=>exact uF (o' H1 (.refl H1))
  | false=>exact uE ⟨ρ,E.mono e,o'⟩⟩
theorem yM (ha:FT X a ga):FT X (.UnaryOp .Not a pos) (fW ga) :=
 vJ (yd ha.h) fun σ H Q ρ E o=>⟨ρ,E,OutB.bindB o fun k H1 e o'=>o' H1 (.refl H1)⟩
def kT (f g:FnE):FnE:=fun ρ=>bnd (f ρ) fun x=>bnd (toB x) fun k=>if k then g ρ else some (.ok (.bl false))
def vOr (f g:FnE):FnE:=fun ρ=>bnd (f ρ) fun x=>bnd (toB x) fun k=>if k then some (.ok (.bl true)) else g ρ
def Bp (f:FnE):FnE:=fun ρ=>bnd (f ρ) fun x=>bnd (toB x) fun k=>some (.ok (.bl (!k)))
theorem lb {H:Hp} {d:Dv} {v:V} {k:Bool→Option (Rs Dv)} {Q:VK} (r:Rep X.K H d v) (o:Out X H (bnd (toB d) k) Q):∃ b,v=.bl b∧Out X H (k b) Q:=by
 cases d with
 | bl b=>exact ⟨b,r,o⟩
 | _=>exact o.elim
theorem yN {op} (ha:FE X a fa):FE X (.BoolOp op [a] pos) fa:=⟨ye ha.h⟩
theorem yO (ha:FE X a fa) (hb:FE X (.BoolOp .And (b :: rest) pos) fb):FE X (.BoolOp .And (a :: b :: rest) pos) (kT fa fb) :=
 cv (yf ha.h hb.h) fun σ H Q ρ E o=>⟨ρ,E,Out.bind o fun d v H1 e r o'=>by
  obtain ⟨k,rfl,o2⟩:=lb r o'
  refine ⟨k,rfl,?_⟩
  cases k with
  | true=>exact uF ⟨ρ,E.mono e,o2⟩
  | false=>exact uE (o2 (.bl false) H1 (.refl H1) rfl)⟩
theorem B4 (ha:FE X a fa) (hb:FE X (.BoolOp .Or (b :: rest) pos) fb):FE X (.BoolOp .Or (a :: b :: rest) pos) (vOr fa fb) :=
 cv (BD ha.h hb.h) fun σ H Q ρ E o=>⟨ρ,E,Out.bind o fun d v H1 e r o'=>by
  obtain ⟨k,rfl,o2⟩:=lb r o'
  refine ⟨k,rfl,?_⟩
  cases k with
  | true=>exact uF (o2 (.bl true) H1 (.refl H1) rfl)
  | false=>exact uE ⟨ρ,E.mono e,o2⟩⟩
theorem yP (ha:FE X a fa):FE X (.UnaryOp .Not a pos) (Bp fa) :=
 cv (yg ha.h) fun σ H Q ρ E o=>⟨ρ,E,Out.bind o fun d v H1 e r o'=>by
  obtain ⟨k,rfl,o2⟩:=lb r o'
  exact ⟨k,rfl,o2 (.bl (!k)) H1 (.refl H1) rfl⟩⟩
def fIf (c:FnB) (f g:FnE):FnE:=fun ρ=>bnd (c ρ) fun k=>if k then f ρ else g ρ
theorem B5 (hc:FT X c ga) (ha:FE X a fa) (hb:FE X b fb):FE X (.IfExp c a b pos) (fIf ga fa fb) :=
 cv (rW hc.h ha.h hb.h) fun σ H Q ρ E o=>⟨ρ,E,OutB.bind o fun k H1 e o'=>by
  cases k with
  | true=>exact uF ⟨ρ,E.mono e,o'⟩
  | false=>exact uE ⟨ρ,E.mono e,o'⟩⟩
def ag:FnA:=fun _=>some (.ok [])
def aa (f:FnE) (g:FnA):FnA:=fun ρ=>bnd (f ρ) fun x=>bnd (g ρ) fun xs=>some (.ok (x :: xs))
theorem yQ {t:TA} {f:FnA} (h:PA X es t) (w:∀ σ H Q ρ,Envs X.K H σ ρ→OutA X H (f ρ) Q→t σ H Q):FA X es f :=
 ⟨fun pos pins s σ H Q I ⟨ρ,E,o⟩=>h pos pins s σ H Q I (w σ H Q ρ E o)⟩
theorem uI:FA X [] ag:=yQ o7 fun _ H _ _ _ o=>o [] H (.refl H) rfl
theorem pq {g:FnA} (ha:FE X e fa) (hr:FA X es g) (hs:f_ (e :: es) X.env=(false,eval e X.env) :: f_ es X.env:=by kernel_rfl):FA X (e :: es) (aa fa g) :=
 yQ (fR ha.h hr.h hs) fun σ H Q ρ E o=>⟨ρ,E,Out.bindA o fun d v H1 e r o1=>⟨ρ,E.mono e,OutA.bindA o1 fun ds vs H2 e2 rs o2=>o2 (v :: vs) H2 (.refl H2) ⟨v,vs,rfl,Rep.mono e2 d v r,rs⟩⟩⟩
def c0 (g:FnA):FnE:=fun ρ=>bnd (g ρ) fun ds=>if ds.length≤100000 then some (.ok (.lst ds)) else none
def cf (g:FnA):FnE:=fun ρ=>bnd (g ρ) fun ds=>if ds.length≤100000 then some (.ok (.tup ds)) else none
theorem bn {n:Nat} (h:n≤100000):n≤sizeLine:=EM h (by rw [Ht]; decide)
theorem yR {g:FnA} (h:FA X es g):FE X (.List es pos) (c0 g) :=
 cv (uB h.h) fun σ H Q ρ E o=>⟨ρ,E,OutA.bind o fun ds vs H1 e rs o1=>by
  split at o1
  · rename_i hl
    refine ⟨by rw [rs.length]; exact bn hl,fun p hp=>o1 (.ref p) _ (aq hp _) ⟨p,vs,rfl,ai,Reps.mono (aq hp _) _ _ rs⟩⟩
  · exact o1.elim⟩
theorem yS {g:FnA} {k} (h:FA X es g):FE X (.Tuple es k pos) (cf g) :=
 cv (yq h.h) fun σ H Q ρ E o=>⟨ρ,E,OutA.bind o fun ds vs H1 e rs o1=>by
  split at o1
  · rename_i hl
    refine ⟨by rw [rs.length]; exact bn hl,fun p hp=>o1 (.ref p) _ (aq hp _) ⟨p,vs,rfl,ai,Reps.mono (aq hp _) _ _ rs⟩⟩
  · exact o1.elim⟩
variable {st:Stmt} {sts:List Stmt} {f g:FnS}
theorem vN:FSs X [] (fun ρ=>some (.nx ρ)):=uG oN fun D σ H ρ E o=>o σ H (.refl H) E
def bD (f g:FnS):FnS:=fun ρ=>sq (f ρ) g
theorem sf (h1:FS X st f) (h2:FSs X sts g):FSs X (st :: sts) (bD f g) :=
 uG (cG h1.h h2.h) fun D σ H ρ E o=>⟨ρ,E,by
  unfold bD at o
  match hf:f ρ with
  | none=>rw [hf] at o; exact o.elim
  | some (.exc c)=>rw [hf] at o; exact o
  | some (.rt d)=>rw [hf] at o; exact o
  | some (.nx ρ')=>rw [hf] at o; exact fun σ' H' e E'=>⟨ρ',E',OutS.mono e o⟩⟩
theorem vO (h1:FS X st f):FSs X [st] f:=⟨kZ h1.h⟩
def bf (f:FnE):FnS:=fun ρ=>dk (f ρ) fun d=>some (.rt d)
theorem yT (he:FE X e fa):FS X (.Return (some e) pos) (bf fa) :=
 la (uz he.h) fun D σ H ρ E o=>⟨ρ,E,Out.bindS o fun d v H1 e r o1=>o1 v H1 (.refl H1) r⟩
def gZ (f:FnE):FnS:=fun ρ=>dk (f ρ) fun _=>some (.nx ρ)
theorem vP (he:FE X e fa) (hs:Fk e none pos.line X.env=pure false:=by kernel_rfl):FS X (.Expr e pos) (gZ fa) :=
 la (oO he.h hs) fun D σ H ρ E o=>⟨ρ,E,Out.bindS o fun d v H1 e r o1=>o1 σ H1 (.refl H1) (E.mono e)⟩
def dN (i:Nat) (f:FnE):FnS:=fun ρ=>dk (f ρ) fun d=>some (.nx (ρ.set i (some d)))
theorem yU (i:Nat) {x:Str} {pos':Pos} (hN:X.N.Nodup) (hi:X.N[i]?=some x) (hx:Loc X.env.scope x) (he:FE X e fa) (hs:Fk e (some (.Name x pos')) pos.line X.env=pure false:=by kernel_rfl) (hf:X.fn x=true∨X.env.scope.names.lookup x=some .local:=by first | exact .inl rfl | exact .inr rfl | assumption) :
 FS X (.Assign [.Name x pos'] e pos) (dN i fa) :=
 la (hU hN hi hx he.h hs hf) fun D σ H ρ E o=>⟨ρ,E,Out.bindS o fun d v H1 e r o1=>o1 _ H1 (.refl H1) ((E.mono e).set r)⟩
def cV (c:FnB) (f g:FnS):FnS:=fun ρ=>dk (c ρ) fun k=>if k then f ρ else g ρ
theorem B6 {as bs:List Stmt} (hc:FT X c ga) (ha:FSs X as f) (hb:FSs X bs g):FS X (.If c as bs pos) (cV ga f g) :=
 la (vx hc.h ha.h hb.h) fun D σ H ρ E o=>⟨ρ,E,OutB.bindS o fun k H1 e o1=>by
  cases k with
  | true=>exact uF ⟨ρ,E.mono e,o1⟩
  | false=>exact uE ⟨ρ,E.mono e,o1⟩⟩
def jM:FnS:=fun _=>none
theorem sh:FS X st jM:=la rX fun _ _ _ _ _ o=>o
end
def Its (z:Str):It:=⟨fun i _=>i < z.cps.size,fun i H x H'=>H'=H∧∃ c,z.cps[i]?=some c∧x=.str ⟨#[c]⟩,fun i _=>i=z.cps.size⟩
theorem jN {prog:Program} {w:w_} {A:u_} (hh:A.handled=none) (I:Addr) (x:Str) (t:Tok) {ty:String} (hty:ty="str_ascii_iterator"∨ty="str_iterator") :
 Walks prog w A I [I] [I] x.cps.size (SignAt x) (fun i h=>h.IsStrIter I ty x t i):=by
 rcases hty with rfl | rfl
 · exact Walks.strAscii hh I x t
 · exact Walks.strWide hh I x t
theorem si {P:Program} {w:w_} {K:ck} {tg:Expr} (z:Str) (t:Tok) (it:Addr) {ty:String} (hty:ty="str_ascii_iterator"∨ty="str_iterator"):uA P w K tg (Its z) [it] it (fun i h=>h.IsStrIter it ty z t i) where
 mem:=by simp
 obj:=fun i h st b hb=>by
  have e:b=it:=by simpa using hb
  subst e
  obtain ⟨o,e,c,d⟩:=st
  exact ⟨o,e,fun v z=>by rw [d] at z; cases z⟩
 keep:=fun i h h' st k=>let ⟨o,ho,r⟩:=st; ⟨o,k it (by simp) o ho,r⟩
 item:=by
  intro X hP hw hK hc i pins s σ H E I hf st hg
  subst hP hw hK
  obtain ⟨f0,f1,f2,f3,f4,f5⟩:=hf it (by simp)
  have W:=jN (prog:=X.prog) (w:=X.w) (I.ok.hd hc) it z t hty
  refine W.item i s _ _ hg st fun v h' tk hv st' kk=>?_
  obtain ⟨c,u,hc',rfl⟩:=hv
  have I1:Inv X pins σ H { s with heap:=h',toks:=tk }:=I.turned (fun b o hb e=>kk b o (by simpa using hb) e) f0 f1 f3 f4 f5
  obtain ⟨o,e,c',d⟩:=id st'
  refine ⟨_,rfl,rY (s:={ s with heap:=h',toks:=tk }) e c' d (by rcases hty with rfl | rfl <;> decide) ⟨.str ⟨#[c]⟩,H,I1,⟨u,rfl⟩,⟨rfl,c,hc',rfl⟩,st',fun b hb=>(hf b hb).1⟩⟩
 done:=by
  intro X hP hw hK hc i pins s σ H E I hf st hg
  subst hP hw hK
  obtain ⟨f0,f1,f2,f3,f4,f5⟩:=hf it (by simp)
  have W:=jN (prog:=X.prog) (w:=X.w) (I.ok.hd hc) it z t hty
  have hg':i=z.cps.size:=hg
  subst hg'
  exact W.done s _ _ st fun h' tk kk=>⟨rfl,I.turned (fun b o hb e=>kk b o (by simpa using hb) e) f0 f1 f3 f4 f5⟩
 self:=fun A i s Q E st h=>by
  rcases hty with rfl | rfl
  · exact wpAny_pyIter_striter_ascii st h
  · exact wpAny_pyIter_striter_wide st h
structure Wk (K:ck) (J:It) (ds:List Dv) (H0:Hp):Prop where
 go:∀ i H,Same H0 H→i < ds.length→J.go i H
 stop:∀ H,Same H0 H→J.stop ds.length H
 yld:∀ i H x H',Same H0 H→i < ds.length→J.yld i H x H'→H'=H∧∃ d,ds[i]?=some d∧Rep K H d x
def OutI (X:Cx) (H:Hp) (o:Option (Rs (List Dv))) (R:It→Hp→Prop):Prop:=match o with
 | none=>False
 | some (.exc c)=>XW X c H
 | some (.ok ds)=>∀ J H',Same H H'→Wk X.K J ds H'→R J H'
structure FI (X:Cx) (tg iter:Expr) (f:FnA):Prop where
 h:PI X tg iter fun σ H R=>∃ ρ,Envs X.K H σ ρ∧OutI X H (f ρ) R
theorem OutI.mono {X:Cx} {H H':Hp} {R:It→Hp→Prop} (e:Same H H'):∀ {o:Option (Rs (List Dv))},OutI X H o R→OutI X H' o R
 | none,h=>h
 | some (.exc _),h=>XW.mono h e
 | some (.ok _),h=>fun v H1 e1 r=>h v H1 (e.trans e1) r
def signs (z:Str):List Dv:=z.cps.toList.map fun c=>.str ⟨#[c]⟩
def items:Dv→Option (Rs (List Dv))
 | .lst ds=>some (.ok ds)
 | .tup ds=>some (.ok ds)
 | .str z=>some (.ok (signs z))
 | _=>none
def bP (f:FnE):FnA:=fun ρ=>bnd (f ρ) items
theorem vQ {K:ck} {H:Hp} {a:Addr} {xs:List V} {ds:List Dv} (h:H a=some (.lst xs)) (r:Reps K H ds xs):Wk K (Itl K a) ds H where
 go:=fun i H' e hi=>by
  have hx:i < xs.length:=by rw [r.length]; exact hi
  exact ⟨xs,xs[i],SqL.of (e _ _ h),by simp [hx]⟩
 stop:=fun H' e=>⟨xs,SqL.of (e _ _ h),by rw [r.length]; exact j_ _⟩
 yld:=fun i H' x H2 e hi y=>by
  obtain ⟨e2,y⟩:=y
  obtain ⟨d,h1,h2⟩:=Reps.get (Reps.mono e _ _ r) (y xs (SqL.of (e _ _ h)))
  exact ⟨e2,d,h1,h2⟩
theorem yV {K:ck} {H:Hp} {a:Addr} {xs:List V} {ds:List Dv} (h:H a=some (.tup xs)) (r:Reps K H ds xs):Wk K (Itt K a) ds H where
 go:=fun i H' e hi=>by
  have hx:i < xs.length:=by rw [r.length]; exact hi
  exact ⟨xs,xs[i],SqT.of (e _ _ h),by simp [hx]⟩
 stop:=fun H' e=>⟨xs,SqT.of (e _ _ h),by rw [r.length]; exact j_ _⟩
 yld:=fun i H' x H2 e hi y=>by
  obtain ⟨e2,y⟩:=y
  obtain ⟨d,h1,h2⟩:=Reps.get (Reps.mono e _ _ r) (y xs (SqT.of (e _ _ h)))
  exact ⟨e2,d,h1,h2⟩
theorem yW {K:ck} {H:Hp} {z:Str}:Wk K (Its z) (signs z) H where
 go:=fun i H' e hi=>by show i < z.cps.size; simpa [signs] using hi
 stop:=fun H' e=>by show (signs z).length=z.cps.size; simp [signs]
 yld:=fun i H' x H2 e hi y=>by
  obtain ⟨e2,c,hc,rfl⟩:=y
  refine ⟨e2,.str ⟨#[c]⟩,?_,rfl⟩
  have hc':z.cps.toList[i]?=some c:=by simpa using hc
  rw [signs,Ex,hc'] <;> rfl
def rng (lo:Int):Nat→List Dv
 | 0=>[]
 | n + 1=>.int lo :: rng (lo + 1) n
theorem dq:∀ (n:Nat) (lo:Int),(rng lo n).length=n
 | 0,_=>rfl
 | n + 1,lo=>by show (rng (lo + 1) n).length + 1=n + 1; rw [dq]
theorem pr:∀ (n:Nat) (lo:Int) (i:Nat),i < n→(rng lo n)[i]?=some (.int (lo + i))
 | 0,_,_,h=>by omega
 | n + 1,lo,0,_=>by simp [rng]
 | n + 1,lo,i + 1,h=>by
  have q:=pr n (lo + 1) i (by omega)
  show (Dv.int lo :: rng (lo + 1) n)[i + 1]?=_
  rw [Kj,q]
  congr 2
  omega
theorem mx {K:ck} {H:Hp} {lo:Int} {n:Nat}:Wk K (Itr lo n) (rng lo n) H where
 go:=fun i H' e hi=>by rw [dq] at hi; exact hi
 stop:=fun H' e=>by show n≤(rng lo n).length; rw [dq]; exact j_ _
 yld:=fun i H' x H2 e hi y=>by
  obtain ⟨e2,rfl⟩:=y
  rw [dq] at hi
  exact ⟨e2,_,pr n lo i hi,rfl⟩
section
variable {X:Cx} {tg l a b:Expr} {fl:FnE} {pos p:Pos}
theorem yX (hl:FE X l fl):FI X tg l (bP fl):=by
 constructor
 intro pins s σ H R I h
 obtain ⟨ρ,E,o⟩:=h
 have key:Out X H (fl ρ) fun x H1=>∃ d,Rep X.K H1 d x∧OutI X H1 (items d) R:=by
  unfold bP at o
  match hf:fl ρ,o with
  | some (.exc c),o=>exact o
  | some (.ok d),o=>exact fun v H1 e r=>⟨d,r,OutI.mono e o⟩
  | none,o=>exact o
 refine thn (hl.h pins s σ H _ I ⟨ρ,E,key⟩) fun v s1 ⟨x,H1,I1,r1,d,rd,q⟩=>?_
 have fin:∀ (o:Obj) (tn:Nat→Heap→Prop) (J:It) (ds:List Dv),uA X.prog X.w X.K tg J [s1.heap.objs.size] s1.heap.objs.size tn→tn 0 (s1.heap.push o)→Wk X.K J ds H1→(∀ J H',Same H1 H'→Wk X.K J ds H'→R J H') →
  PIE X pins σ tg R (.ref s1.heap.objs.size) { s1 with heap:=s1.heap.push o }:=fun o tn J ds T t0 w q=>by
  refine ⟨s1.heap.objs.size,[s1.heap.objs.size],tn,J,H1,rfl,I1.kept (t':=s1.toks) fun b o e=>e_ _ e,T,t0,fun b hb=>?_,q J H1 (.refl H1) w⟩
  have e:b=s1.heap.objs.size:=by simpa using hb
  subst e
  exact I1.fpOk (j_ _) (I1.hok.fresh (j_ _))
 cases d with
 | lst ds =>
  obtain ⟨a,xs,rfl,h1,h2⟩:=rd.lstE
  cases r1
  obtain ⟨its,rv,p,hz⟩:=I1.list (SqL.of h1)
  exact JE p.isList (fin _ _ (Itl X.K a) ds (oR a _) ⟨_,o_ _ rfl,rfl,rfl⟩ (vQ h1 h2) q)
 | tup ds =>
  obtain ⟨a,xs,rfl,h1,h2⟩:=rd.tupE
  cases r1
  obtain ⟨its,rv,p,hz⟩:=I1.tuple (SqT.of h1)
  exact HS (show s1.heap.IsTuple a its.toArray from p) (fin _ _ (Itt X.K a) ds (hX a _) ⟨_,o_ _ rfl,rfl,rfl⟩ (yV h1 h2) q)
 | str z =>
  cases (show x=.str z from rd)
  obtain ⟨t,rfl⟩:=r1
  have hty:Mu z="str_ascii_iterator"∨Mu z="str_iterator":=by
   unfold Mu
   split
   · exact .inl rfl
   · exact .inr rfl
  exact wpAny_pyIter_strU (fin _ _ (Its z) (signs z) (si z t _ hty) ⟨_,o_ _ rfl,rfl,rfl⟩ yW q)
 | _=>exact q.elim
def pv:List Dv→Option (Rs (List Dv))
 | [.int j]=>if -(2 ^ 62)≤j∧j < 2 ^ 62 then some (.ok (rng 0 j.toNat)) else none
 | _=>none
def sj:List Dv→Option (Rs (List Dv))
 | [.int i,.int j]=>if -(2 ^ 62)≤i∧i < 2 ^ 62∧-(2 ^ 62)≤j∧j < 2 ^ 62 then some (.ok (rng i (j - i).toNat)) else none
 | _=>none
theorem ib {H:Hp} {R:It→Hp→Prop} {o:Option (Rs (List Dv))} {k:List Dv→Option (Rs (List Dv))} {P:List V→Hp→Prop} (h:OutI X H (bnd o k) R) (hp:∀ ds vs H',Same H H'→Reps X.K H' ds vs→OutI X H' (k ds) R→P vs H'):OutA X H o P:=by
 match o,h with
 | some (.exc _),h=>exact h
 | some (.ok d),h=>exact fun v H1 e r=>hp d v H1 e r (OutI.mono e h)
theorem pA {ga:FnA} (hg:Gl X "range") (hm:X.mg "range"=none) (ha:FA X [a] ga) (hs:f_ [a] X.env=[(false,eval a X.env)]:=by kernel_rfl):FI X tg (.Call (.Name "range" p) [a] [] pos) (fun ρ=>bnd (ga ρ) pv):=by
 constructor
 intro pins s σ H R I h
 obtain ⟨ρ,E,o⟩:=h
 refine oU hg hm ha.h hs pins s σ H R I ⟨ρ,E,ib o fun ds vs H' e rs o1=>?_⟩
 unfold pv at o1
 split at o1
 · rename_i j
   split at o1
   · rename_i hj
     obtain ⟨v,us,rfl,r,t⟩:∃ v us,vs=v :: us∧Rep X.K H' (.int j) v∧Reps X.K H' [] us:=rs
     cases (show us=[] from t)
     cases (show v=.int j from r)
     exact ⟨j,rfl,hj.1,hj.2,o1 _ H' (.refl H') mx⟩
   · exact o1.elim
 · exact o1.elim
theorem pB {ga:FnA} (hg:Gl X "range") (hm:X.mg "range"=none) (ha:FA X [a,b] ga) (hs:f_ [a,b] X.env=[(false,eval a X.env),(false,eval b X.env)]:=by kernel_rfl) (hs2:f_ [b] X.env=[(false,eval b X.env)]:=by kernel_rfl) :
 FI X tg (.Call (.Name "range" p) [a,b] [] pos) (fun ρ=>bnd (ga ρ) sj):=by
 constructor
 intro pins s σ H R I h
 obtain ⟨ρ,E,o⟩:=h
 refine oV hg hm ha.h hs hs2 pins s σ H R I ⟨ρ,E,ib o fun ds vs H' e rs o1=>?_⟩
 unfold sj at o1
 split at o1
 · rename_i i j
   split at o1
   · rename_i hj
     obtain ⟨v,us,rfl,r,t⟩:∃ v us,vs=v :: us∧Rep X.K H' (.int i) v∧Reps X.K H' [.int j] us:=rs
     obtain ⟨v2,us2,rfl,r2,t2⟩:∃ v us',us=v :: us'∧Rep X.K H' (.int j) v∧Reps X.K H' [] us':=t
     cases (show us2=[] from t2)
     cases (show v=.int i from r)
     cases (show v2=.int j from r2)
     exact ⟨i,j,rfl,hj,o1 _ H' (.refl H') mx⟩
   · exact o1.elim
 · exact o1.elim
end
def g8 (i:Nat) (js:List Nat) (body:FnS):List Dv→Ev→Option Fl
 | [],ρ=>some (.nx (fgt js ρ))
 | d :: ds,ρ=>match body ((fgt js ρ).set i (some d)) with
  | some (.nx ρ')=>g8 i js body ds ρ'
  | o=>o
def vR (i:Nat) (js:List Nat) (src:FnA) (body:FnS):FnS:=fun ρ=>dk (src ρ) fun ds=>g8 i js body ds ρ
theorem c4 {α:Type} {ds:List α} {i:Nat} {d:α} (h:ds[i]?=some d):ds.drop i=d :: ds.drop (i + 1):=by
 obtain ⟨hi,e⟩:=B_.mp h
 rw [List.drop_eq_getElem_cons hi,e]
theorem yY {X:Cx} {tg iter:Expr} {body:List Stmt} {pos:Pos} {src:FnA} {fb:FnS} (i:Nat) (js:List Nat) (hp:Ia (s_ X.prog X.w) X.A X.env X.xe) (hc:X.calm=true) (hi:FI X tg iter src) (hg:PG X tg (oP i)) (hb:FSs X body fb)
 (hs:∀ x,EJ iter X.env x=pure x:=by intro _; kernel_rfl):FS X (.For tg iter body [] pos) (vR i js src fb):=by
 refine la (mo hp hc hi.h hg hb.h hs) fun D σ H ρ E o=>⟨ρ,E,?_⟩
 unfold vR at o
 match hf:src ρ,o with
 | none,o=>exact o
 | some (.exc c),o=>exact o
 | some (.ok ds),o =>
  intro J H1 e1 wk
  have o1:OutS X H1 (g8 i js fb ds ρ) D:=OutS.mono e1 o
  refine ⟨fun n m σ' H'=>m=ds.length - n∧n≤ds.length∧Same H1 H'∧∃ ρ',Envs X.K H' σ' ρ'∧OutS X H' (g8 i js fb (ds.drop n) ρ') D,⟨ds.length,by simp,EK _,.refl H1,ρ,E.mono e1,by simpa using o1⟩,?_⟩
  rintro n m σ' H' ⟨rfl,hn,e2,ρ',E',o'⟩
  by_cases hlt:n < ds.length
  · refine .inr ⟨wk.go n H' e2 hlt,fun σ2 H2=>Same H1 H2∧∃ ρ2,Envs X.K H2 σ2 ρ2∧OutS X H2 (g8 i js fb (ds.drop (n + 1)) ρ2) D,fun σ2 H2 ⟨e3,ρ2,E2,o2⟩=>⟨ds.length - (n + 1),by omega,rfl,hlt,e3,ρ2,E2,o2⟩,fun x H2 y=>?_⟩
    obtain ⟨rfl,d,hd,rd⟩:=wk.yld n H' x H2 e2 hlt y
    rw [c4 hd] at o'
    show tS X fb _ _ _
    refine ⟨(fgt js ρ').set i (some d),(Envs.fgt js E').set rd,?_⟩
    unfold g8 at o'
    match hb':fb ((fgt js ρ').set i (some d)) with
    | none=>rw [hb'] at o'; exact o'
    | some (.exc c)=>rw [hb'] at o'; exact o'
    | some (.rt r)=>rw [hb'] at o'; exact o'
    | some (.nx ρ2)=>rw [hb'] at o'; exact fun σ2 H3 e3 E3=>⟨e2.trans e3,ρ2,E3,OutS.mono e3 o'⟩
  · have hn':n=ds.length:=by omega
    subst hn'
    rw [HC] at o'
    exact .inl ⟨wk.stop H' e2,o' σ' H' (.refl H') (Envs.fgt js E')⟩
def spF (K:ck) (F:List Dv→Option (Rs Dv)) (n:Nat):Sp:=fun vs H Q _=>∃ ds,Reps K H ds vs∧ds.length=n∧match F ds with
 | some (.ok d)=>∀ v H',Same H H'→Rep K H' d v→Q v H'
 | _=>False
def ae (F:List Dv→Option (Rs Dv)) (n:Nat) (g:FnA):FnE:=fun ρ=>bnd (g ρ) fun ds=>if ds.length=n then (match F ds with | some (.ok d)=>some (.ok d) | _=>none) else none
section
variable {X:Cx} {k n:Nat} {f:Addr} {fd:FL} {ps:List Str} {x:Str} {p pos:Pos} {e:Expr} {es:List Expr} {F:List Dv→Option (Rs Dv)} {g:FnA}
theorem vS (G:FnOk X.prog X.w X.K X.mg X.base CX0 k f fd ps (spF X.K F n)) (hr:Room k X.A) (hg:Gl X x) (hm:X.mg x=some (.ref f)) (hk:F0 X.K (.ref f)=true) (hb:Binds X.K fd ps [])
 (ha:FA X (e :: es) g) (hdb:(x == ("__debug__":Str))=false:=by kernel_rfl) (he:f_ (e :: es) X.env=(false,eval e X.env) :: f_ es X.env:=by kernel_rfl) (hpl:(EY pos (f_ es X.env)).any (·.1)=false:=by kernel_rfl) :
 FE X (.Call (.Name x p) (e :: es) [] pos) (ae F n g) :=
 cv (o9 G hr hg hm hk hb .nil yC ha.h hdb he hpl) fun σ H Q ρ E o=>⟨ρ,E,OutA.bind o fun ds vs H' e rs o1=>by
  show spF X.K F n (vs ++ []) H' Q E0
  rw [Ja]
  split at o1
  · rename_i hl
    refine ⟨ds,rs,hl,?_⟩
    match hF:F ds with
    | some (.ok d)=>rw [hF] at o1; exact o1
    | some (.exc c)=>rw [hF] at o1; exact o1
    | none=>rw [hF] at o1; exact o1
  · exact o1.elim⟩
def Has (P:Program) (w:w_) (K:ck) (mg:Str→Option Value) (base:Heap) (x:Str) (k:Nat) (ps:List Str) (F:List Dv→Option (Rs Dv)):Prop :=
 ∃ f fd,FnOk P w K mg base CX0 k f fd ps (spF K F ps.length)∧mg x=some (.ref f)∧F0 K (.ref f)=true∧Binds K fd ps []
theorem sk {k':Nat} (k:Nat) (ps:List Str) (F:List Dv→Option (Rs Dv)) (h:Has X.prog X.w X.K X.mg X.base x k ps F) (hr:Room k' X.A) (hk:k≤k') (hg:Gl X x) (ha:FA X (e :: es) g) (hn:n=ps.length:=by kernel_rfl) (hdb:(x == ("__debug__":Str))=false:=by kernel_rfl)
 (he:f_ (e :: es) X.env=(false,eval e X.env) :: f_ es X.env:=by kernel_rfl) (hpl:(EY pos (f_ es X.env)).any (·.1)=false:=by kernel_rfl) :
 FE X (.Call (.Name x p) (e :: es) [] pos) (ae F n g):=by
 subst hn
 obtain ⟨f,fd,G,hm,hkp,hb⟩:=h
 exact vS (G.mono hk) hr hg hm hkp hb ha hdb he hpl
def bR (m:Nat) (fb:FnS):List Dv→Option (Rs Dv):=fun ds=>match fb (ds.map some ++ Gm (m - ds.length) none) with
 | some (.nx _)=>some (.ok .non)
 | some (.rt d)=>some (.ok d)
 | _=>none
theorem nI {K:ck} {H:Hp} {N:List Str} {ds:List Dv} {vs:List V} (r:Reps K H ds vs):Envs K H (L2.start N vs) (ds.map some ++ Gm (N.length - ds.length) none):=by
 have hl:=r.length
 refine ⟨by unfold L2.start; rw [Fc,Fc,Ey,Ey,Hq,Hq,hl],fun i d h=>?_⟩
 by_cases hi:i < ds.length
 · rw [Gg (by simpa using hi),Ex] at h
   cases hd:ds[i]? with
   | none=>rw [hd] at h; cases h
   | some d' =>
    rw [hd] at h
    have h':some (some d')=some (some d):=h
    injection h' with h'
    injection h' with h'
    subst h'
    obtain ⟨v,h1,h2⟩:=r.get' hd
    refine ⟨v,?_,h2⟩
    unfold L2.start
    rw [Gg (by rw [Ey,hl]; exact hi),Ex,h1] <;> rfl
 · rw [Fz (by simpa using hi),Ic] at h
   split at h <;> cases h
theorem B7 {P:Program} {w:w_} {K:ck} {mg:Str→Option Value} {base:Heap} {qual:Str} {st:Stmt} {N:List Str} {fb:FnS} (Fn:Fun K x qual st f fd) (S:eG N ps (aJ st))
 (hb:∀ (cdv:Value) (A:u_) (outer:List Env) (s:c_) (H:Hp) (E:XK),Room k (A.deeper (JA qual (aJ st) s.heap.objs.size f cdv))→FSs (r8 CX0 P w K mg base N qual (aJ st) f cdv A outer s H E).nox (cr st) fb) :
 FnOk P w K mg base CX0 (k + 1) f fd ps (spF K (bR N.length fb) ps.length):=by
 refine Fn.ok S (fun vs H Q E h=>?_) (fun cdv A outer s H vs Q E hr h=>?_)
 · obtain ⟨ds,r,hl,_⟩:=h
   rw [r.length,hl]
 · obtain ⟨ds,r,hl,q⟩:=h
   refine ⟨_,(hb cdv A outer s H E hr).h,ds.map some ++ Gm (N.length - ds.length) none,nI r,?_⟩
   unfold bR at q
   match hf:fb (ds.map some ++ Gm (N.length - ds.length) none) with
   | none=>rw [hf] at q; exact q.elim
   | some (.exc c)=>rw [hf] at q; exact q.elim
   | some (.rt d)=>rw [hf] at q; exact fun v H' e r'=>q v H' e r'
   | some (.nx ρ)=>rw [hf] at q; exact fun σ' H' e _=>q .non H' e rfl
end
theorem uJ {k:Nat} {f:Addr} {fd:FL} {x:Str} {P:Program} {w:w_} {K:ck} {mg:Str→Option Value} {base:Heap} {qual:Str} {st:Stmt} {F:List Dv→Option (Rs Dv)} {n:Nat} (N ps:List Str) (fb:FnS) (hF:F=bR N.length fb) (hn:n=ps.length)
 (Fn:Fun K x qual st f fd) (S:eG N ps (aJ st))
 (hb:∀ (cdv:Value) (A:u_) (outer:List Env) (s:c_) (H:Hp) (E:XK),Room k (A.deeper (JA qual (aJ st) s.heap.objs.size f cdv))→FSs (r8 CX0 P w K mg base N qual (aJ st) f cdv A outer s H E).nox (cr st) fb) :
 FnOk P w K mg base CX0 (k + 1) f fd ps (spF K F n):=by
 subst hF hn
 exact B7 Fn S hb
def fX (names:List (Str×G3)) (env:Env) (acc:List (Str×Addr)):List (Str×Addr):=match names with
 | []=>acc
 | (n,k) :: r=>fX r env (if k == .free then (n,(env.cells.lookup n).getD 0) :: acc else acc)
theorem ic {env:Env} {n:Str} {c:Addr}:∀ (names:List (Str×G3)) (acc:List (Str×Addr)),(fX names env acc).lookup n=some c→acc.lookup n=some c∨((n,F7)∈names∧c=(env.cells.lookup n).getD 0)
 | [],acc,h=>.inl h
 | (m,k) :: r,acc,h=>by
  rcases ic r _ h with q | ⟨q1,q2⟩
  · by_cases hk:k=.free
    · subst hk
      simp only [beq_self_eq_true,if_true] at q
      rw [ET] at q
      cases hm:n == m with
      | true =>
       rw [hm] at q
       have e:n=m:=by simpa using hm
       subst e
       exact .inr ⟨h_,(EU q).symm⟩
      | false=>rw [hm] at q; exact .inl q
    · have hb:(k == F7)=false:=by simpa using hk
      rw [hb] at q
      exact .inl (by simpa using q)
  · exact .inr ⟨k_ _ q1,q2⟩
theorem jO {env:Env} {n:Str}:∀ (names:List (Str×G3)) (acc:List (Str×Addr)),(acc.lookup n).isSome=true→((fX names env acc).lookup n).isSome=true
 | [],acc,h=>h
 | (m,k) :: r,acc,h=>by
  refine jO r _ ?_
  split
  · rw [ET]
    cases n == m with
    | true=>rfl
    | false=>exact h
  · exact h
theorem iQ {env:Env} {n:Str}:∀ (names:List (Str×G3)) (acc:List (Str×Addr)),(n,F7)∈names→((fX names env acc).lookup n).isSome=true
 | [],acc,h=>by cases h
 | (m,k) :: r,acc,h=>by
  rcases pi.mp h with e | q
  · injection e with e1 e2
    subst e1
    subst e2
    refine jO r _ ?_
    simp only [beq_self_eq_true,if_true,ET]
    rfl
  · exact iQ r _ q
theorem cw {β:Type} {n:Str} {k:β}:∀ {l:List (Str×β)},l.lookup n=some k→(n,k)∈l
 | [],h=>by simp at h
 | (m,j) :: r,h=>by
  rw [ET] at h
  cases hm:n == m with
  | true =>
   rw [hm] at h
   have e:n=m:=by simpa using hm
   subst e
   have e2:j=k:=EU h
   subst e2
   exact h_
  | false=>rw [hm] at h; exact k_ _ (cw h)
structure Du (osc scope:Scope) (x:Str) (cs:List (Str×Nat)) (N:List Str):Prop where
 kind:scope.kind=.function
 okind:osc.kind=.function
 cell:∀ y∈scope.names,y.2≠.cell
 names:∀ y∈scope.names,y.2=.local→scope.names.lookup y.1=some .local
 tgt:scope.names.lookup x=some .local
 nd:(x :: cs.map (·.1)).Nodup
 free:∀ y∈scope.names,y.2=.free→osc.names.lookup y.1=some .cell∨osc.names.lookup y.1=some .free
 caps:∀ c∈cs,N[c.2]?=some c.1∧scope.names.lookup c.1=some .free
theorem fg {scope:Scope} {env:Env} {n:Str} {k:G3} (h:(relabel scope env).names.lookup n=some k):(n,k)∈scope.names∨(k=.cell∧(n,F7)∈scope.names):=by
 have q:=cw h
 unfold relabel at q
 obtain ⟨⟨m,j⟩,hm,e⟩:=m_.mp q
 dsimp only at e
 split at e
 · rename_i hc
   injection e with e1 e2
   subst e1
   have hj:j=.free:=by
    rw [on,on] at hc
    simpa using hc.1.1
   subst hj
   exact .inr ⟨e2.symm,hm⟩
 · injection e with e1 e2
   subst e1
   subst e2
   exact .inl hm
theorem fj {env:Env}:∀ {names:List (Str×G3)} {n:Str},names.lookup n=some .free →
 (names.map fun (n,k)=>if (k == F7 && env.scope.kind == .function && env.kindOf n == some .cell) then (n,Gj) else (n,k)).lookup n=some .cell ∨
 (names.map fun (n,k)=>if (k == F7 && env.scope.kind == .function && env.kindOf n == some .cell) then (n,Gj) else (n,k)).lookup n=some .free
 | [],_,h=>by simp at h
 | (m,k) :: r,n,h=>by
  have ih:=@fj env r n
  rw [ET] at h
  rw [t_]
  cases hm:n == m with
  | true =>
   rw [hm] at h
   have e2:k=.free:=EU h
   subst e2
   by_cases hc:(F7 == F7 && env.scope.kind == .function && env.kindOf m == some .cell)=true
   · dsimp only
     rw [if_pos hc,ET,hm]
     exact .inl rfl
   · dsimp only
     rw [if_neg hc,ET,hm]
     exact .inr rfl
  | false =>
   rw [hm] at h
   dsimp only
   by_cases hc:(k == F7 && env.scope.kind == .function && env.kindOf m == some .cell)=true
   · rw [if_pos hc,ET,hm]; exact ih h
   · rw [if_neg hc,ET,hm]; exact ih h
def oE (cs:List (Str×Nat)) (ρ:Ev):Ev:=none :: cs.map fun c=>(ρ[c.2]?).join
section
variable {X:Cx} {pins:List (Addr×Obj)} {σ:L2.St} {H:Hp} {s:c_}
end
def pC (tst:Option FnB) (elt:FnE) (cap:Ev):List Dv→Option (List Dv)
 | []=>some []
 | d :: ds =>
  let ρ:=cap.set 0 (some d)
  match (match tst with | none=>(some (.ok true):Option (Rs Bool)) | some t=>t ρ) with
  | some (.ok true)=>(match elt ρ with
   | some (.ok y)=>(match pC tst elt cap ds with | some ys=>some (y :: ys) | none=>none)
   | _=>none)
  | some (.ok false)=>pC tst elt cap ds
  | _=>none
def ba (cs:List (Str×Nat)) (src:FnA) (tst:Option FnB) (elt:FnE):FnE:=fun ρ=>bnd (src ρ) fun ds=>match pC tst elt (oE cs ρ) ds with
 | some ys=>if ys.length≤100000∧ds.length≤100000 then some (.ok (.lst ys)) else none
 | none=>none
def LAt (h:Heap) (D:Addr) (its:List Value):Prop:=∃ n,h.get? D=some { cls:=.type "list",data:=.seq its.toArray n }
theorem nJ {P:Program} {w:w_} {A:u_} {E:Value→c_→Prop} {s:c_} {D:Addr} {its:List Value} {u:Value} {Q:Value→c_→Prop} (h:LAt s.heap D its) (hz:its.length≤100000)
 (hQ:∀ h',LAt h' D (its ++ [u])→(∀ b o,b≠D→s.heap.get? b=some o→h'.get? b=some o)→Q .none { s with heap:=h' }):l_ (s_ P w) A (call (.builtin "list.append") [.ref D,u]) Q E s:=by
 obtain ⟨n,e⟩:=h
 refine Kr IT ⟨_,e,rfl⟩ Lr (K8 _ _) (LS D its.toArray n u (by rw [x_]; exact bn hz)) ⟨e,?_⟩
 have q:=Mi e (·.push u)
 have e2:its.toArray.push u=(its ++ [u]).toArray:=by simp
 rw [e2] at q
 exact hQ _ ⟨_,q⟩ fun b o hb ho=>(Kx s.heap _ (GE hb)).trans ho
def sn (X:Cx) (ifs:List Expr) (tst:Option FnB):Prop:=match tst with
 | none=>ifs=[]
 | some t=>∃ c,ifs=[c]∧FT X c t
theorem HOk.add {P:Program} {w:w_} {H:Hp} {h h':Heap} {D C:Addr} {o:HO} (x:HOk P w H h) (hD:H D=none) (hC:H C=none) (k:∀ b u,b≠C→h.get? b=some u→h'.get? b=some u) (new:ObjOk P w (upd H D o) h' D o):HOk P w (upd H D o) h':=fun b u e=>by
 by_cases hb:b=D
 · subst hb; rw [ai] at e; cases e; exact new
 · rw [am hb] at e
   refine (x b u e).stay (fun c v hc q=>k c v ?_ q) (fun c q=>by rw [am (ak q hD)]; exact q) fun c xs q=>by rw [am (ak q hD)]; exact q
   rcases hc with rfl | hc
   · exact ak e hC
   · exact ak hc hC
theorem vT {b D:Nat} (h:b < D):b≠D:=by omega
theorem yZ {b D:Nat} (h:b < D):b≠D + 1:=by omega
theorem Dw {D:Nat}:D≠D + 1:=by omega
section
variable {X:Cx}
def gW:Dv→Dv→Option (Rs Dv)
 | .int i,.int j=>some (.ok (.int (i + j)))
 | .str x,.str y=>if x.length + y.length≤100000 then some (.ok (.str (x ++ y))) else none
 | .lst a,.lst b=>if a.length + b.length≤100000 then some (.ok (.lst (a ++ b))) else none
 | _,_=>none
def vU:R2:=fun x y H Q=>rI0 (fun i j=>.int (i + j)) x y H Q∨((∃ i j,x=.str i∧y=.str j∧i.length + j.length≤sizeLine∧Q (.str (i ++ j)) H)∨Ds x y H Q)
theorem o_add:OpR X (GN .Add) vU:=op_add.or (op_add_str.or yB)
theorem y0:GOp X vU gW:=by
 intro dx dy x y H Q rx ry o
 cases dx <;> cases dy <;> try exact (show False from o).elim
 · rename_i i j
   exact .inl ⟨i,j,rx,ry,o _ H (.refl H) rfl⟩
 · rename_i i j
   simp only [gW] at o
   split at o
   · rename_i hl
     exact .inr (.inl ⟨i,j,rx,ry,bn hl,o _ H (.refl H) rfl⟩)
   · exact o.elim
 · rename_i a b
   simp only [gW] at o
   split at o
   · rename_i hl
     obtain ⟨p,xs,rfl,h1,q1⟩:=rx.lstE
     obtain ⟨p2,xs2,rfl,h2,q2⟩:=ry.lstE
     refine .inr (.inr ⟨p,p2,xs,xs2,rfl,rfl,h1,h2,by rw [q1.length,q2.length]; exact bn hl,fun l hl=>o _ _ (aq hl _) ⟨l,_,rfl,ai,Reps.mono (aq hl _) _ _ (q1.append q2)⟩⟩)
   · exact o.elim
def y3:Dv→Dv→Option (Rs Dv)
 | .int i,.int j=>some (.ok (.int (i - j)))
 | _,_=>none
theorem B8:GOp X (rI0 fun i j=>.int (i - j)) y3:=by
 intro dx dy x y H Q rx ry o
 cases dx <;> cases dy <;> try exact (show False from o).elim
 rename_i i j
 exact ⟨i,j,rx,ry,o _ H (.refl H) rfl⟩
def fA:Dv→Dv→Option (Rs Dv)
 | .int i,.int j=>if (-18446744073709551616 < i∧i < 18446744073709551616)∨(-18446744073709551616 < j∧j < 18446744073709551616) then some (.ok (.int (i * j))) else none
 | _,_=>none
theorem B9:GOp X (rI CMul fun i j=>.int (i * j)) fA:=by
 intro dx dy x y H Q rx ry o
 cases dx <;> cases dy <;> try exact (show False from o).elim
 rename_i i j
 simp only [fA] at o
 split at o
 · rename_i h
   exact ⟨i,j,rx,ry,h,o _ H (.refl H) rfl⟩
 · exact o.elim
def dO:Dv→Dv→Option (Rs Dv)
 | .int i,.int j=>if 0 < j then some (.ok (.int (i % j))) else none
 | _,_=>none
theorem Ca:GOp X (rI (fun _ j=>0 < j) fun i j=>.int (i % j)) dO:=by
 intro dx dy x y H Q rx ry o
 cases dx <;> cases dy <;> try exact (show False from o).elim
 rename_i i j
 simp only [dO] at o
 split at o
 · rename_i h
   exact ⟨i,j,rx,ry,h,o _ H (.refl H) rfl⟩
 · exact o.elim
def dS:Dv→Dv→Option (Rs Dv)
 | .int i,.int j=>if 0 < j∧j < 1073741824 then some (.ok (.int (i / j))) else none
 | _,_=>none
theorem y4:GOp X (rI Di fun i j=>.int (i / j)) dS:=by
 intro dx dy x y H Q rx ry o
 cases dx <;> cases dy <;> try exact (show False from o).elim
 rename_i i j
 simp only [dS] at o
 split at o
 · rename_i h
   exact ⟨i,j,rx,ry,h,o _ H (.refl H) rfl⟩
 · exact o.elim
def vV:Dv→Option (Rs Dv)
 | .int i=>some (.ok (.int (-i)))
 | _=>none
def f1 (g:Dv→Option (Rs Dv)) (fa:FnE):FnE:=fun ρ=>bnd (fa ρ) g
theorem y6 {a:Expr} {fa:FnE} {pos:Pos} (ha:FE X a fa):FE X (.UnaryOp .USub a pos) (f1 vV fa) :=
 cv (BL yo ha.h) fun σ H Q ρ E o=>⟨ρ,E,Out.bind o fun d v H1 e r o1=>by
  cases d <;> try exact (show False from o1).elim
  rename_i i
  exact ⟨i,r,o1 _ H1 (.refl H1) rfl⟩⟩
def seq (x y:Str):Bool:=x.cps.toList == y.cps.toList
theorem uK (x y:Str):(x == y)=seq x y:=by
 rw [Fh]
 unfold seq
 obtain ⟨⟨a⟩⟩:=x
 obtain ⟨⟨b⟩⟩:=y
 simp
def eqS:Dv→Dv→Option Bool
 | .non,.non=>some true
 | .non,.int _=>some false
 | .int _,.non=>some false
 | .non,.bl _=>some false
 | .bl _,.non=>some false
 | .non,.str _=>some false
 | .str _,.non=>some false
 | .int i,.int j=>some (i == j)
 | .bl i,.bl j=>some (i == j)
 | .str i,.str j=>some (seq i j)
 | .int _,.str _=>some false
 | .str _,.int _=>some false
 | .bl _,.str _=>some false
 | .str _,.bl _=>some false
 | _,_=>none
theorem uL {K:ck} {H:Hp} {dx dy:Dv} {x y:V} {b:Bool} (rx:Rep K H dx x) (ry:Rep K H dy y) (h:eqS dx dy=some b):BN x y=true∧decide (x=y)=b:=by
 cases dx <;> cases dy <;> (try cases h) <;> (try (cases rx; cases ry; exact ⟨rfl,by first | rfl | exact k7 | exact oW | (rw [k8,uK]) | simp⟩))
def Cb (p:Int→Int→Bool):Dv→Dv→Option (Rs Dv)
 | .int i,.int j=>some (.ok (.bl (p i j)))
 | _,_=>none
theorem Cc (p:Int→Int→Bool):GOp X (rI0 fun i j=>.bl (p i j)) (Cb p):=by
 intro dx dy x y H Q rx ry o
 cases dx <;> cases dy <;> try exact (show False from o).elim
 rename_i i j
 exact ⟨i,j,rx,ry,o _ H (.refl H) rfl⟩
abbrev gtD:=Cb fun i j=>decide (j < i)
def isN:Dv→Dv→Option (Rs Dv)
 | x,.non=>some (.ok (.bl (match x with | .non=>true | _=>false)))
 | _,_=>none
theorem vW {K:ck} {H:Hp} {d:Dv} {v:V} (r:Rep K H d v):decide (v=.non)=(match d with | .non=>true | _=>false):=by
 cases d with
 | non=>cases (show v=.non from r); rfl
 | bl b=>cases (show v=.bl b from r); rfl
 | int b=>cases (show v=.int b from r); rfl
 | str b=>cases (show v=.str b from r); rfl
 | tup ds=>obtain ⟨a,xs,rfl,_⟩:=r.tupE; rfl
 | lst ds=>obtain ⟨a,xs,rfl,_⟩:=r.lstE; rfl
 | scr ds=>obtain ⟨a,rfl,_⟩:=r.scrE; rfl
 | exn c =>
  obtain ⟨a,_,_,_,rfl,_⟩:=r.exnE
  rfl
theorem Cd:GOp X (fun x y H Q=>y=.non∧Q (.bl (decide (x=.non))) H) isN:=by
 intro dx dy x y H Q rx ry o
 cases dy <;> try exact (show False from o).elim
 have q:=vW rx
 refine ⟨ry,?_⟩
 have q2:=o _ H (.refl H) rfl
 cases dx <;> (rw [q]; exact q2)
def inS (x y:Str):Bool:=!(Fv y x 0 y.length 1).isEmpty
def iR:Dv→Bool
 | .non=>true
 | .bl _=>true
 | .int _=>true
 | .str _=>true
 | _=>false
def eqF:Dv→Dv→Bool
 | .non,.non=>true
 | .bl a,.bl b=>a == b
 | .bl a,.int b=>(if a then 1 else 0) == b
 | .int a,.bl b=>a == (if b then 1 else 0)
 | .int a,.int b=>a == b
 | .str a,.str b=>seq a b
 | _,_=>false
def inL (x:Dv) (ys:List Dv):Option Bool:=if iR x && ys.all iR then some (ys.any fun y=>eqF y x) else none
def vX:Dv→Dv→Option Bool
 | .str x,.str y=>some (inS x y)
 | x,.lst ys=>inL x ys
 | x,.tup ys=>inL x ys
 | _,_=>none
def inD (x y:Dv):Option (Rs Dv):=match vX x y with
 | some b=>some (.ok (.bl b))
 | none=>none
def jP (x y:Dv):Option (Rs Dv):=match vX x y with
 | some b=>some (.ok (.bl (!b)))
 | none=>none
theorem pD {K:ck} {H:Hp} {d:Dv} {v:V} (r:Rep K H d v) (h:iR d=true):fz v=true:=by
 cases d <;> first | (cases h; done) | (cases r; rfl)
theorem my {K:ck} {H:Hp}:∀ {ds:List Dv} {vs:List V},Reps K H ds vs→ds.all iR=true→vs.all fz=true
 | [],vs,r,_=>by cases (show vs=[] from r); rfl
 | d :: ds,vs,r,h=>by
  obtain ⟨v,us,rfl,r1,r2⟩:∃ v us,vs=v :: us∧Rep K H d v∧Reps K H ds us:=r
  rw [Gw,on] at h
  rw [Gw,on]
  exact ⟨pD r1 h.1,my r2 h.2⟩
theorem y8 {K:ck} {H:Hp} {d e:Dv} {v u:V} (r:Rep K H d v) (q:Rep K H e u) (h:iR d=true) (h':iR e=true):eqV v u=eqF d e:=by
 cases d <;> first | (cases h; done) | (cases r; cases e <;> first | (cases h'; done) | (cases q; first | rfl | exact uK _ _))
theorem uM {K:ck} {H:Hp} {e:Dv} {u:V} (q:Rep K H e u) (h':iR e=true):∀ {ds:List Dv} {vs:List V},Reps K H ds vs→ds.all iR=true→(vs.any fun y=>eqV y u)=ds.any fun y=>eqF y e
 | [],vs,r,_=>by cases (show vs=[] from r); rfl
 | d :: ds,vs,r,h=>by
  obtain ⟨v,us,rfl,r1,r2⟩:∃ v us,vs=v :: us∧Rep K H d v∧Reps K H ds us:=r
  rw [Gw,on] at h
  rw [F8,F8,y8 r1 q h.1 h',uM q h' r2 h.2]
theorem mz {K:ck} {H:Hp} {dx:Dv} {ys:List Dv} {x:V} {vs:List V} {b:Bool} (rx:Rep K H dx x) (ry:Reps K H ys vs) (h:inL dx ys=some b):fz x=true∧vs.all fz=true∧inV x vs=b:=by
 unfold inL at h
 split at h
 · rename_i hc
   rw [on] at hc
   cases h
   exact ⟨pD rx hc.1,my ry hc.2,uM rx hc.1 ry hc.2⟩
 · cases h
def Ce (K:ck):R2:=fun x y H Q=>(∃ i j,x=.str i∧y=.str j∧Q (.bl (!(Fv j i 0 j.length 1).isEmpty)) H)∨rIn K false x y H Q
def lc (K:ck):R2:=fun x y H Q=>(∃ i j,x=.str i∧y=.str j∧Q (.bl (!(!(Fv j i 0 j.length 1).isEmpty))) H)∨rIn K true x y H Q
theorem o_in:OpR X (EF .In) (Ce X.K):=op_in_str.or ph
theorem o_notIn:OpR X (EF .NotIn) (lc X.K):=op_notIn_str.or jK
theorem Dx:GOp X (Ce X.K) inD:=by
 intro dx dy x y H Q rx ry o
 unfold inD at o
 split at o
 · rename_i b hb
   have q:=o _ H (.refl H) rfl
   cases dy <;> try (cases dx <;> cases hb; done)
   · rename_i z
     cases dx <;> try (cases hb; done)
     rename_i z'
     cases hb
     exact .inl ⟨z',z,rx,ry,q⟩
   · rename_i ys
     have hb':inL dx ys=some b:=by cases dx <;> exact hb
     obtain ⟨a,vs,rfl,h1,h2⟩:=ry.tupE
     obtain ⟨f1,f2,f3⟩:=mz rx h2 hb'
     exact .inr ⟨a,vs,rfl,.inr (SqT.of h1),f1,f2,by rw [if_neg p_,f3]; exact q⟩
   · rename_i ys
     have hb':inL dx ys=some b:=by cases dx <;> exact hb
     obtain ⟨a,vs,rfl,h1,h2⟩:=ry.lstE
     obtain ⟨f1,f2,f3⟩:=mz rx h2 hb'
     exact .inr ⟨a,vs,rfl,.inl (SqL.of h1),f1,f2,by rw [if_neg p_,f3]; exact q⟩
 · exact o.elim
theorem pE:GOp X (lc X.K) jP:=by
 intro dx dy x y H Q rx ry o
 unfold jP at o
 split at o
 · rename_i b hb
   have q:=o _ H (.refl H) rfl
   cases dy <;> try (cases dx <;> cases hb; done)
   · rename_i z
     cases dx <;> try (cases hb; done)
     rename_i z'
     cases hb
     exact .inl ⟨z',z,rx,ry,q⟩
   · rename_i ys
     have hb':inL dx ys=some b:=by cases dx <;> exact hb
     obtain ⟨a,vs,rfl,h1,h2⟩:=ry.tupE
     obtain ⟨f1,f2,f3⟩:=mz rx h2 hb'
     exact .inr ⟨a,vs,rfl,.inr (SqT.of h1),f1,f2,by rw [if_pos rfl,f3]; exact q⟩
   · rename_i ys
     have hb':inL dx ys=some b:=by cases dx <;> exact hb
     obtain ⟨a,vs,rfl,h1,h2⟩:=ry.lstE
     obtain ⟨f1,f2,f3⟩:=mz rx h2 hb'
     exact .inr ⟨a,vs,rfl,.inl (SqL.of h1),f1,f2,by rw [if_pos rfl,f3]; exact q⟩
 · exact o.elim
def atD {α:Type} (xs:List α) (i:Int):Option α:=if 0≤i then xs[i.toNat]? else if -(xs.length:Int)≤i then xs[(i + xs.length).toNat]? else none
theorem iS {α:Type} {xs:List α} {i:Int} {v:α} (h:atD xs i=some v):atI xs i=some v:=by
 unfold atD at h
 unfold atI ixN
 split at h
 · rename_i h0
   have hl:i.toNat < xs.length:=by
    obtain ⟨q,_⟩:=B_.mp h
    exact q
   rw [if_pos h0,if_pos (by omega)]
   exact h
 · rename_i h0
   split at h
   · rename_i h1
     rw [if_neg h0,if_pos h1]
     exact h
   · cases h
def ixD:Dv→Dv→Option (Rs Dv)
 | .lst xs,.int i=>(match atD xs i with | some d=>some (.ok d) | none=>none)
 | .tup xs,.int i=>(match atD xs i with | some d=>some (.ok d) | none=>none)
 | .str z,.int i=>if z.length≤100000 then (match atD z.cps.toList i with | some c=>some (.ok (.str ⟨#[c]⟩)) | none=>none) else none
 | .scr ns,.int i=>(match atD ns i with | some d=>some (.ok (.int d)) | none=>none)
 | _,_=>none
theorem lf {α β:Type} {xs:List α} {ys:List β} (h:ys.length=xs.length) {i:Int} {x:α} (e:atD xs i=some x):∃ j:Nat,xs[j]?=some x∧∀ y,ys[j]?=some y→atD ys i=some y:=by
 unfold atD at e
 split at e
 · rename_i h0
   exact ⟨_,e,fun y q=>by unfold atD; rw [if_pos h0]; exact q⟩
 · rename_i h0
   split at e
   · rename_i h1
     exact ⟨_,e,fun y q=>by unfold atD; rw [if_neg h0,h,if_pos h1]; exact q⟩
   · cases e
theorem Ed:GOp X (rIx X.K) ixD:=by
 intro dx dy x y H Q rx ry o
 cases dx <;> cases dy <;> try exact (show False from o).elim
 · rename_i z i
   simp only [ixD] at o
   split at o
   · rename_i hl
     split at o
     · rename_i c hc
       exact .inr (.inr ⟨z,i,c,rx,ry,bn hl,iS hc,o _ H (.refl H) rfl⟩)
     · exact o.elim
   · exact o.elim
 · rename_i ds i
   simp only [ixD] at o
   split at o
   · rename_i d hd
     obtain ⟨a,xs,rfl,h1,h2⟩:=rx.tupE
     obtain ⟨j,e1,e2⟩:=lf h2.length hd
     obtain ⟨v,e3,r3⟩:=h2.get' e1
     exact .inr (.inl ⟨a,xs,i,v,rfl,ry,SqT.of h1,iS (e2 v e3),o v H (.refl H) r3⟩)
   · exact o.elim
 · rename_i ds i
   simp only [ixD] at o
   split at o
   · rename_i d hd
     obtain ⟨a,xs,rfl,h1,h2⟩:=rx.lstE
     obtain ⟨j,e1,e2⟩:=lf h2.length hd
     obtain ⟨v,e3,r3⟩:=h2.get' e1
     exact .inl ⟨a,xs,i,v,rfl,ry,SqL.of h1,iS (e2 v e3),o v H (.refl H) r3⟩
   · exact o.elim
 · rename_i ns i
   simp only [ixD] at o
   split at o
   · rename_i d hd
     obtain ⟨a,rfl,h1⟩:=rx.scrE
     obtain ⟨j,e1,e2⟩:=lf (ys:=ns.map V.int) (by simp) hd
     exact .inl ⟨a,_,i,.int d,rfl,ry,h1,iS (e2 _ (by rw [Ex,e1] <;> rfl)),o _ H (.refl H) rfl⟩
   · exact o.elim
theorem Cf {a b:Expr} {fa fb:FnE} {pos:Pos} (ha:FE X a fa) (hb:FE X b fb) (hs:pf b:=by intro _ _; kernel_rfl):FE X (.Subscript a b pos) (f2 ixD fa fb) :=
 cv (BW yx ha.h hb.h hs) fun _ _ _ _ E o=>two Ed E o
abbrev FnO:=Ev→Option (Rs (Option Int))
def OutO (X:Cx) (H:Hp) (o:Option (Rs (Option Int))) (Q:Option Int→Hp→Prop):Prop:=match o with
 | none=>False
 | some (.exc c)=>XW X c H
 | some (.ok d)=>∀ H',Same H H'→Q d H'
theorem OutO.mono {H H':Hp} {Q:Option Int→Hp→Prop} (e:Same H H'):∀ {o:Option (Rs (Option Int))},OutO X H o Q→OutO X H' o Q
 | none,h=>h
 | some (.exc _),h=>XW.mono h e
 | some (.ok _),h=>fun H1 e1=>h H1 (e.trans e1)
structure FO (X:Cx) (e:Option Expr) (f:FnO):Prop where
 h:PO X e fun σ H Q=>∃ ρ,Envs X.K H σ ρ∧OutO X H (f ρ) Q
def lg:FnO:=fun _=>some (.ok none)
def toI:Dv→Option (Rs (Option Int))
 | .int i=>some (.ok (some i))
 | _=>none
def fD (f:FnE):FnO:=fun ρ=>bnd (f ρ) toI
theorem vY:FO X none lg:=⟨fun pins s σ H Q I ⟨_,_,o⟩=>vD pins s σ H Q I (o H (.refl H))⟩
theorem vZ {e:Expr} {fa:FnE} (h:FE X e fa):FO X (some e) (fD fa):=⟨fun pins s σ H Q I ⟨ρ,E,o⟩=>vF h.h pins s σ H Q I ⟨ρ,E,by
 unfold fD at o
 match hf:fa ρ,o with
 | none,o=>exact o
 | some (.exc c),o=>exact o
 | some (.ok d),o =>
  intro v H' e r
  cases d <;> try exact (show False from o).elim
  rename_i i
  exact ⟨i,r,o H' e⟩⟩⟩
def xS {α:Type} (xs:List α) (lo hi:Option Int):List α:=(xs.drop (HT.sIx xs.length 0 lo)).take (HT.sIx xs.length xs.length hi - HT.sIx xs.length 0 lo)
def Ee:V→Option Int→Option Int→Hp→VK→Prop:=fun x lo hi H Q=>∃ z,x=.str z∧z.length≤sizeLine∧Q (.str (Md z lo hi)) H
theorem sl_str:SlR X Ee:=by
 intro pins s σ H x v vl vu lo hi sl Q I rx hs pl pu q
 obtain ⟨z,rfl,hz,q⟩:=q
 obtain ⟨t,rfl⟩:=rx
 refine ⟨"str",_,F.slot_str_getitem.lookup,IJ _ _ _,?_⟩
 have fin:∀ (t':Tok) (k:Nat),EP X pins σ Q (.str (Md z lo hi) t') { s with toks:=k }:=fun t' k=>⟨.str (Md z lo hi),H,I.tok _,⟨_,rfl⟩,q⟩
 cases pl with
 | none =>
  cases pu with
  | none=>exact G0 (l:=none) (u:=none) (st:=none) hs rfl (IZ ⟨EM (Kt z _ _) hz,fun t' k=>fin t' k⟩)
  | int j u=>exact G0 (l:=none) (u:=some (j,u)) (st:=none) hs rfl (IZ ⟨EM (Kt z _ _) hz,fun t' k=>fin t' k⟩)
 | int i u' =>
  cases pu with
  | none=>exact G0 (l:=some (i,u')) (u:=none) (st:=none) hs rfl (IZ ⟨EM (Kt z _ _) hz,fun t' k=>fin t' k⟩)
  | int j u=>exact G0 (l:=some (i,u')) (u:=some (j,u)) (st:=none) hs rfl (IZ ⟨EM (Kt z _ _) hz,fun t' k=>fin t' k⟩)
def Dy (x:Dv) (lo hi:Option Int):Option (Rs Dv):=match x with
 | .str z=>if z.length≤100000 then some (.ok (.str (Md z lo hi))) else none
 | .lst xs=>some (.ok (.lst (xS xs lo hi)))
 | _=>none
theorem jQ {H:Hp} {Q:VK} {o:Option (Rs (Option Int))} {k:Option Int→Option (Rs Dv)} {P:Option Int→Hp→Prop} (h:Out X H (bnd o k) Q) (hp:∀ b H',Same H H'→Out X H' (k b) Q→P b H'):OutO X H o P:=by
 match o,h with
 | some (.exc _),h=>exact h
 | some (.ok d),h=>exact fun H1 e=>hp d H1 e (Out.mono e h)
def fY:List Dv→Option (Rs Dv)
 | [.str z]=>if z.length≤100000 then some (.ok (.int z.length)) else none
 | [.lst xs]=>some (.ok (.int xs.length))
 | [.tup xs]=>some (.ok (.int xs.length))
 | [.scr ns]=>some (.ok (.int ns.length))
 | _=>none
def fB1 (g:List Dv→Option (Rs Dv)) (ga:FnA):FnE:=fun ρ=>bnd (ga ρ) g
variable {x:Str} {p pos:Pos} {e:Expr} {es:List Expr} {ga:FnA}
theorem dU {K:ck} {H:Hp} {d:Dv} {vs:List V} (r:Reps K H [d] vs):∃ v,vs=[v]∧Rep K H d v:=by
 obtain ⟨v,us,rfl,r1,r2⟩:∃ v us,vs=v :: us∧Rep K H d v∧Reps K H [] us:=r
 cases (show us=[] from r2)
 exact ⟨v,rfl,r1⟩
theorem y9 {K:ck} {H:Hp} {d d2:Dv} {vs:List V} (r:Reps K H [d,d2] vs):∃ v v2,vs=[v,v2]∧Rep K H d v∧Rep K H d2 v2:=by
 obtain ⟨v,us,rfl,r1,r2⟩:∃ v us,vs=v :: us∧Rep K H d v∧Reps K H [d2] us:=r
 obtain ⟨v2,rfl,r3⟩:=dU r2
 exact ⟨v,v2,rfl,r1,r3⟩
theorem za (hg:Gl X "len") (hm:X.mg "len"=none) (ha:FA X (e :: es) ga) (he:f_ (e :: es) X.env=(false,eval e X.env) :: f_ es X.env:=by kernel_rfl) (hpl:(EY pos (f_ es X.env)).any (·.1)=false:=by kernel_rfl):FE X (.Call (.Name "len" p) (e :: es) [] pos) (fB1 fY ga) :=
 cv (fE rZ hg hm MJ ha.h (by decide) (by decide) he hpl) fun σ H Q ρ E o=>⟨ρ,E,OutA.bind o fun ds vs H1 e1 rs o1=>by
  unfold fY at o1
  split at o1
  · rename_i z
    split at o1
    · rename_i hz
      obtain ⟨v,rfl,r⟩:=dU rs
      cases (show v=.str z from r)
      exact ⟨_,_,rfl,⟨bn hz,rfl⟩,o1 _ H1 (.refl H1) rfl⟩
    · exact o1.elim
  · rename_i xs
    obtain ⟨v,rfl,r⟩:=dU rs
    obtain ⟨a,ws,rfl,h1,h2⟩:=r.lstE
    exact ⟨_,_,rfl,.inl ⟨ws,SqL.of h1,rfl⟩,o1 _ H1 (.refl H1) (by rw [h2.length]; rfl)⟩
  · rename_i xs
    obtain ⟨v,rfl,r⟩:=dU rs
    obtain ⟨a,ws,rfl,h1,h2⟩:=r.tupE
    exact ⟨_,_,rfl,.inr ⟨ws,SqT.of h1,rfl⟩,o1 _ H1 (.refl H1) (by rw [h2.length]; rfl)⟩
  · rename_i ns
    obtain ⟨v,rfl,r⟩:=dU rs
    obtain ⟨a,rfl,h1⟩:=r.scrE
    exact ⟨_,_,rfl,.inl ⟨_,h1,rfl⟩,o1 _ H1 (.refl H1) (by rw [Ey]; rfl)⟩
  · exact o1.elim⟩
def iT:List Dv→Option (List Bool)
 | []=>some []
 | .bl b :: r=>(match iT r with | some bs=>some (b :: bs) | none=>none)
 | _=>none
def nK:List Dv→Option (Rs Dv)
 | [.lst xs]=>(match iT xs with | some bs=>some (.ok (.bl (bs.all id))) | none=>none)
 | _=>none
theorem mB {K:ck} {H:Hp}:∀ {ds:List Dv} {vs:List V} {us:List Value} {bs:List Bool},Reps K H ds vs→Vals vs us→iT ds=some bs→us=bs.map F1
 | [],vs,us,bs,r,q,h=>by
  cases (show vs=[] from r)
  cases q
  cases h
  rfl
 | d :: ds,vs,us,bs,r,q,h=>by
  obtain ⟨v,ws,rfl,r1,r2⟩:∃ v us,vs=v :: us∧Rep K H d v∧Reps K H ds us:=r
  cases q with
  | cons q1 q2 =>
   cases d <;> try (cases h; done)
   rename_i b
   simp only [iT] at h
   cases hb:iT ds with
   | none=>rw [hb] at h; cases h
   | some bs' =>
    rw [hb] at h
    cases h
    cases (show v=.bl b from r1)
    cases q1
    rw [mB r2 q2 hb]
    rfl
theorem sr:CallR X (.builtin "all") (fun xs H Q=>∃ a vs bs ds,xs=[.ref a]∧H a=some (.lst vs)∧Reps X.K H ds vs∧iT ds=some bs∧X.calm=true∧Q (.bl (bs.all id)) H):=by
 intro pins s σ H xs us Q I r h
 obtain ⟨a,vs,bs,ds,rfl,h1,h2,h3,hc,q⟩:=h
 obtain ⟨u,rfl,ru⟩:=gY r
 cases ru
 obtain ⟨z,its,n,rv,hl,e⟩:=I.lstM h1
 have eb:=mB h2 rv h3
 subst eb
 have hL:s.heap.IsList a (bs.map F1).toArray:=⟨_,e,rfl,_,rfl⟩
 have hlt:a < s.heap.objs.size:=q_ e
 refine call_all_walk (JE hL ?_)
 refine ⟨s.heap.objs.size,[s.heap.objs.size,a],[s.heap.objs.size],(bs.map F1).toArray.size,_,_,fun i=>(bs[i]?).getD true,rfl,Walks.list (A:=X.A.in1) (I.ok.hd hc) _ a (z_ hlt) (bs.map F1).toArray,
  ⟨⟨_,o_ _ rfl,rfl,rfl⟩,hL.push _⟩,fun i v s' Q' E' hP hQ=>?_,fun h' tk hk=>?_⟩
 · have hP':(bs.map F1)[i]?=some v:=by simpa using hP
   rw [Ex] at hP'
   cases hb:bs[i]? with
   | none=>rw [hb] at hP'; cases hP'
   | some b =>
    rw [hb] at hP'
    cases hP'
    have hQ2:Q' ((bs[i]?).getD true) s':=hQ
    rw [hb] at hQ2
    exact Go hQ2
 · have e2:((g_ (bs.map F1).toArray.size).all fun i=>(bs[i]?).getD true)=bs.all id:=by
    rw [x_,Ey]
    rw [Fh]
    simp only [E6,EH,id]
    constructor
    · intro hh b hb
      obtain ⟨i,hi,rfl⟩:=List.mem_iff_getElem.mp hb
      simpa [hi] using hh i hi
    · intro hh i hi
      simp only [n_ hi,Option.getD_some]
      exact hh _ (Ki hi)
   rw [e2]
   refine ⟨.bl _,H,I.kept fun b x eb=>hk b x (fun hm=>?_) (e_ _ eb),rfl,q⟩
   rw [EE.mp hm] at eb
   exact FH _ (q_ eb)
theorem zb (hc:X.calm=true) (hg:Gl X "all") (hm:X.mg "all"=none) (ha:FA X (e :: es) ga) (he:f_ (e :: es) X.env=(false,eval e X.env) :: f_ es X.env:=by kernel_rfl) (hpl:(EY pos (f_ es X.env)).any (·.1)=false:=by kernel_rfl):FE X (.Call (.Name "all" p) (e :: es) [] pos) (fB1 nK ga) :=
 cv (fE sr hg hm PyProof.Rows.boot_all ha.h (by decide) (by decide) he hpl) fun σ H Q ρ E o=>⟨ρ,E,OutA.bind o fun ds vs H1 e1 rs o1=>by
  unfold nK at o1
  split at o1
  · rename_i xs
    split at o1
    · rename_i bs hb
      obtain ⟨v,rfl,r⟩:=dU rs
      obtain ⟨a,ws,rfl,h1,h2⟩:=r.lstE
      exact ⟨a,ws,bs,xs,rfl,h1,h2,hb,hc,o1 _ H1 (.refl H1) rfl⟩
    · exact o1.elim
  · exact o1.elim⟩
def tyD:Dv→String
 | .non=>"NoneType"
 | .bl _=>"bool"
 | .int _=>"int"
 | .str _=>"str"
 | .tup _=>"tuple"
 | .lst _=>"list"
 | .scr _=>"list"
 | .exn _=>"object"
end
section
variable {X:Cx} {p pos apos cpos pT:Pos} {e a o:Expr} {es:List Expr} {ga:FnA} {fa fo:FnE}
theorem v3 {K:ck} {H:Hp} {d:Dv} {v:V} (r:Rep K H d v) (hs:∀ ns,d≠.scr ns) (hx:∀ c,d≠.exn c):mr K H v (.type (tyD d)):=by
 cases d with
 | non=>cases (show v=.non from r); exact .non
 | bl b=>cases (show v=.bl b from r); exact .bl b
 | int b=>cases (show v=.int b from r); exact .int b
 | str b=>cases (show v=.str b from r); exact .str b
 | tup ds=>obtain ⟨a,xs,rfl,h,_⟩:=r.tupE; exact .tup h
 | lst ds=>obtain ⟨a,xs,rfl,h,_⟩:=r.lstE; exact .lst h
 | scr ns=>exact absurd rfl (hs ns)
 | exn c=>exact absurd rfl (hx c)
theorem su (T:String):CallR X (.builtin "isinstance") (fun xs H Q=>∃ x t b,xs=[x,.ty T]∧mr X.K H x t∧G2 X.K t (.type T)=some b∧Q (.bl b) H):=by
 intro pins s σ H xs us Q I r h
 obtain ⟨x,t,b,rfl,ty,hk,q⟩:=h
 obtain ⟨u,w',rfl,ru,rw'⟩:=BQ r
 cases (show w'=EZ T from rw')
 exact o6 I ru ty hk fun tk=>⟨.bl b,H,I.tok tk,rfl,q⟩
def iU (tb:Dv→Bool):Dv→Option (Rs Dv)
 | .scr _=>none
 | .exn _=>none
 | d=>some (.ok (.bl (tb d)))
theorem mC {T:String} {tb:Dv→Bool} (hk:∀ K d,G2 K (.type (tyD d)) (.type T)=some (tb d)) (hT:F9 (b_ T)=some (.type T)) (hn:b_ T≠"__name__") (hdT:(b_ T == ("__debug__":Str))=false)
 (hg:Gl X "isinstance") (hm:X.mg "isinstance"=none) (hgT:Gl X (b_ T)) (hmT:X.mg (b_ T)=none) (ha:FE X a fa)
 (hs1:f_ [a,.Name (b_ T) pT] X.env=(false,eval a X.env) :: f_ [.Name (b_ T) pT] X.env:=by kernel_rfl) (hs2:f_ [.Name (b_ T) pT] X.env=(false,eval (.Name (b_ T) pT) X.env) :: f_ [] X.env:=by kernel_rfl)
 (hpl:(EY pos (f_ [.Name (b_ T) pT] X.env)).any (·.1)=false:=by kernel_rfl) :
 FE X (.Call (.Name "isinstance" p) [a,.Name (b_ T) pT] [] pos) (f1 (iU tb) fa) :=
 cv (fE (su T) hg hm PyProof.Rows.boot_isinstance (fR ha.h (fR (vv (v:=.ty T) hgT hmT hT rfl hn hdT) o7 hs2) hs1) (by decide) (by decide) hs1 hpl) fun σ H Q ρ E o=>⟨ρ,E,Out.bind o fun d v H1 e1 r o1=>by
  show ∃ x t b,[v,V.ty T]=[x,.ty T]∧_
  cases d with
  | scr ns=>exact o1.elim
  | exn c=>exact o1.elim
  | _=>exact ⟨v,_,_,rfl,v3 r (fun ns z=>by cases z) (fun c z=>by cases z),hk X.K _,o1 _ H1 (.refl H1) rfl⟩⟩
def pF:Dv→Bool
 | .str _=>true
 | _=>false
theorem v4 (K:ck) (d:Dv):G2 K (.type (tyD d)) (.type "str")=some (pF d):=by cases d <;> kernel_rfl
def nM:Dv→Bool
 | .tup _=>true
 | _=>false
theorem v6 (K:ck) (d:Dv):G2 K (.type (tyD d)) (.type "tuple")=some (nM d):=by cases d <;> kernel_rfl
def fm:Dv→Bool
 | .bl _=>true
 | _=>false
theorem sv (K:ck) (d:Dv):G2 K (.type (tyD d)) (.type "bool")=some (fm d):=by cases d <;> kernel_rfl
def fM (g:Str→List Dv→Option (Rs Dv)) (fo:FnE) (ga:FnA):FnE:=fun ρ=>bnd (fo ρ) fun x=>match x with
 | .str i=>bnd (ga ρ) fun xs=>g i xs
 | _=>none
def v7 (h:Str→Str→Bool):Str→List Dv→Option (Rs Dv)
 | x,[.str y]=>some (.ok (.bl (h x y)))
 | _,_=>none
def v8 (h:Str→Str→Bool):V→List V→Hp→VK→Prop:=fun x xs H Q=>∃ i j,x=.str i∧xs=[.str j]∧Q (.bl (h i j)) H
theorem Cg:MtR X "str.startswith" (v8 Jq):=by
 intro pins s σ H x xs v us Q I rx rs h
 obtain ⟨i,j,rfl,rfl,q⟩:=h
 obtain ⟨t,rfl⟩:=rx
 obtain ⟨u,rfl,ru⟩:=gY rs
 obtain ⟨t',rfl⟩:=ru
 exact SC.startswith ⟨.bl _,H,I,rfl,q⟩
theorem Ch:MtR X "str.endswith" (v8 L0):=by
 intro pins s σ H x xs v us Q I rx rs h
 obtain ⟨i,j,rfl,rfl,q⟩:=h
 obtain ⟨t,rfl⟩:=rx
 obtain ⟨u,rfl,ru⟩:=gY rs
 obtain ⟨t',rfl⟩:=ru
 exact SC.endswith ⟨.bl _,H,I,rfl,q⟩
theorem v9 {name:Str} {id:String} {r:V→List V→Hp→VK→Prop} {g:Str→List Dv→Option (Rs Dv)} (slot:Slot "str" name id) (hty:typeOf (.builtin id)=pure (.type "method_descriptor")) (hm:MtR X id r)
 (hg:∀ i ds vs H Q,Reps X.K H ds vs→Out X H (g i ds) Q→r (.str i) vs H Q) (ho:FE X o fo) (ha:FA X (e :: es) ga)
 (hbase:GU o name X.env (eval o X.env)=eval o X.env:=by kernel_rfl)
 (hfew:((EY cpos (f_ (e :: es) X.env)).all (fun x=>!x.1) && (G1 cpos (F4 [] X.env)).all (fun x=>x.1.isSome)
   && decide ((e :: es).length + ([]:List GY).length + (if ([]:List GY).isEmpty then 0 else 1) < 30))=true:=by kernel_rfl)
 (hline:(apos.endLine == cpos.line)=true:=by kernel_rfl) (hs:f_ (e :: es) X.env=(false,eval e X.env) :: f_ es X.env:=by kernel_rfl) (hplain:(EY cpos (f_ es X.env)).any (·.1)=false:=by kernel_rfl) :
 FE X (.Call (.Attribute o name apos) (e :: es) [] cpos) (fM g fo ga) :=
 cv (yA PySem.F.plainAttrs_str slot hty hm ho.h ha.h hbase hfew hline hs hplain) fun σ H Q ρ E o=>⟨ρ,E,Out.bind o fun d v H1 e1 rd o1=>by
  cases d <;> try exact (show False from o1).elim
  rename_i i
  cases (show v=.str i from rd)
  exact ⟨rfl,ρ,E.mono e1,OutA.bind o1 fun ds vs H2 e2 rs o2=>hg i ds vs H2 Q rs o2⟩⟩
theorem uN {h:Str→Str→Bool} (i:Str) (ds:List Dv) (vs:List V) (H:Hp) (Q:VK) (rs:Reps X.K H ds vs) (o:Out X H (v7 h i ds) Q):v8 h (.str i) vs H Q:=by
 unfold v7 at o
 split at o
 · rename_i j
   obtain ⟨w,rfl,rw'⟩:=dU rs
   cases (show w=.str j from rw')
   exact ⟨i,j,rfl,rfl,o _ H (.refl H) rfl⟩
 · exact o.elim
def Dz (K:ck):R2:=fun x y H Q=>∃ (a b:Addr) (ns:List Int),x=.ref a∧y=.ref b∧SqL K H a (ns.map V.int)∧H b=some (.lst [])∧Q (.bl ns.isEmpty) H
theorem Ci (hu:X.A.units < cLine):OpR X (EF .Eq) (Dz X.K):=by
 intro pins s σ H x y v u Q I rx ry h
 obtain ⟨a,b,ns,rfl,rfl,h1,h2,q⟩:=h
 cases rx
 cases ry
 obtain ⟨its,r,pl,hz⟩:=I.list h1
 obtain ⟨z2,its2,n2,r2,hl2,e2⟩:=I.lstM h2
 cases r2
 have hb:s.heap.IsList b #[]:=⟨_,e2,rfl,_,rfl⟩
 have hl:=r.length
 cases ns with
 | nil =>
  have e0:its=[]:=by cases its with | nil=>rfl | cons _ _=>simp at hl
  subst e0
  exact SeqAt.eq_listAt (e:=fun _=>true) pl.isList hb rfl hu (fun i hi=>absurd hi (by simp)) (by first | exact ⟨.bl _,H,I,rfl,q⟩ | (refine ⟨.bl _,H,I,?_,q⟩; simp [RelV]))
 | cons n ns =>
  refine SeqAt.eq_list_lengthsAt pl.isList hb ?_ hu ⟨.bl _,H,I,rfl,q⟩
  have:0 < its.length:=by rw [← hl]; simp
  simp
  exact fun z=>by rw [z] at this; simp at this
def Bq:Dv→Dv→Option (Rs Dv)
 | .scr ns,.lst []=>some (.ok (.bl ns.isEmpty))
 | _,_=>none
theorem Cj:GOp X (Dz X.K) Bq:=by
 intro dx dy x y H Q rx ry o
 unfold Bq at o
 split at o
 · rename_i ns
   obtain ⟨a,rfl,h1⟩:=rx.scrE
   obtain ⟨b,xs,rfl,h2,h3⟩:=ry.lstE
   cases (show xs=[] from h3)
   exact ⟨a,b,ns,rfl,rfl,h1,h2,o _ H (.refl H) rfl⟩
 · exact o.elim
end
end FD
namespace FD
open PySem
theorem zc:F9 (b_ "str")=some (.type "str"):=PyProof.Rows.boot_str
theorem sx:F9 (b_ "tuple")=some (.type "tuple"):=by decide +kernel
theorem wa:F9 (b_ "bool")=some (.type "bool"):=by decide +kernel
end FD
namespace FD
open PySem PySem.Spec PyProof.Rows L2
mutual
def bp:Dv→PyData
 | .non=>.none
 | .bl b=>.bool b
 | .int i=>.int i
 | .str x=>.str x
 | .tup xs=>.tuple (toPys xs)
 | .lst xs=>.list (toPys xs)
 | .scr ns=>.list (ns.map PyData.int)
 | .exn _=>.dict []
def toPys:List Dv→List PyData
 | []=>[]
 | d :: ds=>bp d :: toPys ds
end
section
variable {X:Cx} {pins:List (Addr×Obj)} {σ:L2.St} {H:Hp} {s:c_}
theorem ie:∀ {ns:List Int} {us:List Value},Vals (ns.map V.int) us→∃ as,ReadsAll s.heap us (ns.map PyData.int) as
 | [],us,r=>by cases r; exact ⟨_,.nil⟩
 | n :: ns,us,r=>by
  cases r with
  | cons r1 r2 =>
   obtain ⟨t,rfl⟩:=r1
   obtain ⟨as,q⟩:=ie r2
   exact ⟨_,.cons (.int n t) q⟩
mutual
theorem Rep.reads (I:Inv X pins σ H s):∀ (d:Dv) (v:V) (u:Value),Rep X.K H d v→RelV v u→(bp d).canLay0=true→∃ as,Reads s.heap u (bp d) as
 | .non,v,u,r,q,hz0=>by cases (show v=.non from r); cases (show u=EQ from q); exact ⟨_,.none⟩
 | .bl b,v,u,r,q,hz0=>by cases (show v=.bl b from r); cases (show u=F1 b from q); exact ⟨_,.bool b⟩
 | .int i,v,u,r,q,hz0=>by cases (show v=.int i from r); obtain ⟨t,rfl⟩:=(show ∃ t,u=Lj i t from q); exact ⟨_,.int i t⟩
 | .str x,v,u,r,q,hz0=>by cases (show v=.str x from r); obtain ⟨t,rfl⟩:=(show ∃ t,u=HZ x t from q); exact ⟨_,.str x t⟩
 | .tup ds,v,u,r,q,hz0=>by
  obtain ⟨a,xs,rfl,h,rs⟩:=r.tupE
  cases (show u=r_ a from q)
  obtain ⟨its,rv,⟨o,e,c,n,d⟩,hz⟩:=I.tuple (SqT.of h)
  obtain ⟨as,ra⟩:=Reps.reads I ds xs its rs rv (by simpa [bp,Fm] using hz0)
  exact ⟨as,.tuple e c d (by simpa using ra)⟩
 | .lst ds,v,u,r,q,hz0=>by
  obtain ⟨a,xs,rfl,h,rs⟩:=r.lstE
  cases (show u=r_ a from q)
  obtain ⟨z,its,n,rv,hl,e⟩:=I.lstM h
  obtain ⟨as,ra⟩:=Reps.reads I ds xs its rs rv (by simpa [bp,Fm] using hz0)
  exact ⟨a :: as,.list e rfl rfl (by simpa using ra)⟩
 | .scr ns,v,u,r,q,hz0=>by
  obtain ⟨a,rfl,h⟩:=r.scrE
  cases (show u=r_ a from q)
  obtain ⟨its,rv,⟨o,n,e,c,hd,d⟩,hz⟩:=I.list h
  obtain ⟨as,ra⟩:=ie (s:=s) rv
  exact ⟨a :: as,.list e c d (by simpa using ra)⟩
 | .exn c,v,u,r,q,hz0=>by simp [bp,Fm] at hz0
theorem Reps.reads (I:Inv X pins σ H s):∀ (ds:List Dv) (vs:List V) (us:List Value),Reps X.K H ds vs→Vals vs us→FX (toPys ds)=true→∃ as,ReadsAll s.heap us (toPys ds) as
 | [],vs,us,r,q,_=>by cases (show vs=[] from r); cases q; exact ⟨_,.nil⟩
 | d :: ds,vs,us,r,q,hz0=>by
  obtain ⟨v,ws,rfl,r1,r2⟩:∃ v us,vs=v :: us∧Rep X.K H d v∧Reps X.K H ds us:=r
  cases q with
  | cons q1 q2 =>
   have hz1:(bp d).canLay0=true∧FX (toPys ds)=true:=by simpa [toPys,FX] using hz0
   obtain ⟨as,a⟩:=Rep.reads I d v _ r1 q1 hz1.1
   obtain ⟨bs,b⟩:=Reps.reads I ds ws _ r2 q2 hz1.2
   exact ⟨_,.cons a b⟩
end
end
section
variable {X:Cx}
def okP (d:Dv):Bool:=SeqAt.shaped (bp d)
def rPy (X:Cx) (neg:Bool):R2:=fun x y H Q=>∃ dx dy,Rep X.K H dx x∧Rep X.K H dy y∧okP dx=true∧okP dy=true∧Q (.bl (if neg then !EW (bp dx) (bp dy) else EW (bp dx) (bp dy))) H
theorem zd (hu:X.A.units + 64 < cLine):OpR X (EF .Eq) (rPy X false):=by
 intro pins s σ H x y v u Q I rx ry h
 obtain ⟨dx,dy,qx,qy,hx,hy,q⟩:=h
 obtain ⟨as,ra⟩:=Rep.reads I dx x v qx rx (Fa.mp hx).1
 obtain ⟨bs,rb⟩:=Rep.reads I dy y u qy ry (Fa.mp hy).1
 exact SeqAt.compareEq_shaped ra rb hx hy hu ⟨.bl _,H,I,rfl,q⟩
theorem ze (hu:X.A.units + 64 < cLine):OpR X (EF .NotEq) (rPy X true):=by
 intro pins s σ H x y v u Q I rx ry h
 obtain ⟨dx,dy,qx,qy,hx,hy,q⟩:=h
 obtain ⟨as,ra⟩:=Rep.reads I dx x v qx rx (Fa.mp hx).1
 obtain ⟨bs,rb⟩:=Rep.reads I dy y u qy ry (Fa.mp hy).1
 exact SeqAt.compareNe_shaped ra rb hx hy hu ⟨.bl _,H,I,rfl,q⟩
def eqX (x y:Dv):Option (Rs Dv):=match eqS x y with
 | some b=>some (.ok (.bl b))
 | none=>if okP x && okP y then some (.ok (.bl (EW (bp x) (bp y)))) else none
def neX (x y:Dv):Option (Rs Dv):=match eqS x y with
 | some b=>some (.ok (.bl (!b)))
 | none=>if okP x && okP y then some (.ok (.bl (!EW (bp x) (bp y)))) else none
def DA (X:Cx):R2:=fun x y H Q=>rEq x y H Q∨rPy X false x y H Q
def DB (X:Cx):R2:=fun x y H Q=>rNe x y H Q∨rPy X true x y H Q
theorem zg (hu:X.A.units + 64 < cLine):OpR X (EF .Eq) (DA X):=op_eq.or (zd hu)
theorem Ck (hu:X.A.units + 64 < cLine):OpR X (EF .NotEq) (DB X):=op_ne.or (ze hu)
theorem zh:GOp X (DA X) eqX:=by
 intro dx dy x y H Q rx ry o
 unfold eqX at o
 split at o
 · rename_i b hb
   obtain ⟨h1,h2⟩:=uL rx ry hb
   exact .inl ⟨h1,by rw [h2]; exact o _ H (.refl H) rfl⟩
 · split at o
   · rename_i hc
     rw [on] at hc
     exact .inr ⟨dx,dy,rx,ry,hc.1,hc.2,o _ H (.refl H) rfl⟩
   · exact o.elim
theorem Co:GOp X (DB X) neX:=by
 intro dx dy x y H Q rx ry o
 unfold neX at o
 split at o
 · rename_i b hb
   obtain ⟨h1,h2⟩:=uL rx ry hb
   exact .inl ⟨h1,by rw [h2]; exact o _ H (.refl H) rfl⟩
 · split at o
   · rename_i hc
     rw [on] at hc
     exact .inr ⟨dx,dy,rx,ry,hc.1,hc.2,o _ H (.refl H) rfl⟩
   · exact o.elim
def ltX:Dv→Dv→Option (Rs Dv)
 | .int i,.int j=>some (.ok (.bl (decide (i < j))))
 | .str x,.str y=>some (.ok (.bl (decide (x.cps.toList < y.cps.toList))))
 | _,_=>none
def DC:R2:=fun x y H Q=>rI0 (fun i j=>.bl (decide (i < j))) x y H Q∨∃ i j,x=.str i∧y=.str j∧Q (.bl (decide (i.cps.toList < j.cps.toList))) H
theorem Cp:OpR X (EF .Lt) DC:=op_lt.or oY
theorem Cq:GOp X DC ltX:=by
 intro dx dy x y H Q rx ry o
 cases dx <;> cases dy <;> try exact (show False from o).elim
 · rename_i i j
   exact .inl ⟨i,j,rx,ry,o _ H (.refl H) rfl⟩
 · rename_i i j
   exact .inr ⟨i,j,rx,ry,o _ H (.refl H) rfl⟩
theorem jR:∀ (ps:List Str) (k:Nat),Vals (ps.map V.str) (strsFrom k ps)
 | [],_=>.nil
 | p :: ps,k=>.cons ⟨k,rfl⟩ (jR ps (k + 1))
theorem jS {K:ck} {H:Hp}:∀ ps:List Str,Reps K H (ps.map Dv.str) (ps.map V.str)
 | []=>rfl
 | p :: ps=>⟨.str p,ps.map V.str,rfl,rfl,jS ps⟩
def mD:Str→List Dv→Option (Rs Dv)
 | x,[.str y]=>if y.length≠0∧x.length≤100000∧(H_ x y).length≤100000 then some (.ok (.lst ((H_ x y).map Dv.str))) else none
 | _,_=>none
def uO:V→List V→Hp→VK→Prop:=fun x xs H Q=>∃ i j,x=.str i∧xs=[.str j]∧j.length≠0∧i.length≤sizeLine∧(H_ i j).length≤sizeLine∧∀ p,H p=none→Q (.ref p) (upd H p (.lst ((H_ i j).map V.str)))
theorem sy:MtR X "str.split" uO:=by
 intro pins s σ H x xs v us Q I rx rs h
 obtain ⟨i,j,rfl,rfl,hj,hi,hn,q⟩:=h
 obtain ⟨t,rfl⟩:=rx
 obtain ⟨u,rfl,ru⟩:=gY rs
 obtain ⟨t',rfl⟩:=ru
 have hy:(j.length == 0)=false:=by simpa using hj
 have one:∀ {s':c_},s'={ s with heap:=s.heap.push { cls:=.type "list",data:=.seq [HZ i t].toArray } }→H_ i j=[i]→EP X pins σ Q (.ref s.heap.objs.size) s':=fun e e2=>by
  subst e
  rw [e2] at q
  exact ⟨.ref _,_,I.lnew (its:=[HZ i t]) (ys:=[V.str i]) (t':=s.toks) (.cons ⟨t,rfl⟩ .nil) (by show 1≤sizeLine; decide),rfl,q _ I.fresh⟩
 cases h1:(decide (i.length < j.length) || decide (Ls i < Ls j))
 · cases hf:(Fv i j 0 i.length (i.length + 1)).isEmpty
   · have e2:H_ i j=Builtin.Str.partsBetween i (Fv i j 0 i.length (i.length + 1)) j.length:=by
      unfold H_
      rw [if_neg (by rw [h1]; exact p_),if_neg (by rw [hf]; exact p_)]
     rw [e2] at q hn
     refine Kr Ig (IJ _ _ _) JK (Ju _ _) (meets_str_split_sep i j t t' h1 hy hf hi hn) ?_
     exact ⟨.ref _,_,I.lnew (t':=_) (jR _ _) (by rw [Ey]; exact hn),rfl,q _ I.fresh⟩
   · refine Kr Ig (IJ _ _ _) JK (Ju _ _) (meets_str_split_not_found i j t t' h1 hy hf) ?_
     exact one rfl (by unfold H_; rw [if_neg (by rw [h1]; exact p_),if_pos hf])
 · refine Kr Ig (IJ _ _ _) JK (Ju _ _) (meets_str_split_cannot_occur i j t t' h1) ?_
   exact one rfl (by unfold H_; rw [if_pos h1])
theorem wb (i:Str) (ds:List Dv) (vs:List V) (H:Hp) (Q:VK) (rs:Reps X.K H ds vs) (o:Out X H (mD i ds) Q):uO (.str i) vs H Q:=by
 unfold mD at o
 split at o
 · rename_i j
   split at o
   · rename_i hc
     obtain ⟨w,rfl,rw'⟩:=dU rs
     cases (show w=.str j from rw')
     exact ⟨i,j,rfl,rfl,hc.1,bn hc.2.1,bn hc.2.2,fun p hp=>o _ _ (aq hp _) ⟨p,_,rfl,ai,jS _⟩⟩
   · exact o.elim
 · exact o.elim
def Cr:List Dv→Option (List Str)
 | []=>some []
 | .str x :: r=>(match Cr r with | some xs=>some (x :: xs) | none=>none)
 | _=>none
variable {p pos:Pos} {e:Expr} {es:List Expr} {ga:FnA}
def fq:List Dv→Option (Rs Dv)
 | [.lst xs]=>some (.ok (.tup xs))
 | [.tup xs]=>some (.ok (.tup xs))
 | _=>none
theorem sD (hg:Gl X "tuple") (hm:X.mg "tuple"=none) (ha:FA X (e :: es) ga) (he:f_ (e :: es) X.env=(false,eval e X.env) :: f_ es X.env:=by kernel_rfl) (hpl:(EY pos (f_ es X.env)).any (·.1)=false:=by kernel_rfl):FE X (.Call (.Name "tuple" p) (e :: es) [] pos) (fB1 fq ga) :=
 cv (pc iP hg hm (by decide +kernel) ha.h (by decide) (by decide) he hpl) fun σ H Q ρ E o=>⟨ρ,E,OutA.bind o fun ds vs H1 e1 rs o1=>by
  unfold fq at o1
  split at o1
  · rename_i xs
    obtain ⟨v,rfl,r⟩:=dU rs
    obtain ⟨a,ws,rfl,h1,h2⟩:=r.lstE
    exact ⟨a,ws,rfl,.inl ⟨SqL.of h1,fun l hl=>o1 _ _ (aq hl _) ⟨l,ws,rfl,ai,Reps.mono (aq hl _) _ _ h2⟩⟩⟩
  · rename_i xs
    obtain ⟨v,rfl,r⟩:=dU rs
    obtain ⟨a,ws,rfl,h1,h2⟩:=r.tupE
    exact ⟨a,ws,rfl,.inr ⟨SqT.of h1,o1 _ H1 (.refl H1) ⟨a,ws,rfl,h1,h2⟩⟩⟩
  · exact o1.elim⟩
end
section
variable {X:Cx} {apos cpos:Pos} {e o:Expr} {es:List Expr} {ga:FnA} {fo:FnE}
end
structure FG (X:Cx) (tg:Expr) (b:Dv→Ev→Option Ev):Prop where
 h:∀ (pins:List (Addr×Obj)) (s:c_) (σ:L2.St) (H:Hp) (v:V) (u:Value) (d:Dv) (ρ ρ':Ev),Inv X pins σ H s→RelV v u→Rep X.K H d v→Envs X.K H σ ρ→b d ρ=some ρ' →
  l_ (s_ X.prog X.w) X.A (Hn tg X.env u) (fun _ s'=>∃ σ' H',Inv X pins σ' H' s'∧Same H H'∧Envs X.K H' σ' ρ') X.xe s
def gN (i:Nat):Dv→Ev→Option Ev:=fun d ρ=>some (ρ.set i (some d))
def gP (i j:Nat):Dv→Ev→Option Ev:=fun d ρ=>match d with
 | .tup [a,c]=>some ((ρ.set i (some a)).set j (some c))
 | _=>none
section
variable {X:Cx} {pos p1 p2:Pos}
theorem wc (i:Nat) {x:Str} (hN:X.N.Nodup) (hi:X.N[i]?=some x) (hx:Loc X.env.scope x) (hf:X.fn x=true∨X.env.scope.names.lookup x=some .local):FG X (.Name x pos) (gN i) :=
 ⟨fun pins s σ H v u d ρ ρ' I r rd E e=>by
  cases e
  exact thn (cq hN hi hx hf pins s σ H v u (fun σ' H'=>H'=H∧σ'=σ.set i (some v)) I r ⟨rfl,rfl⟩) fun _ s' ⟨σ',H',I',e1,e2⟩=>by
   subst e1 e2
   exact ⟨_,_,I',.refl _,E.set rd⟩⟩
theorem wd (i j:Nat) {x y:Str} {k:Nat} (hc:X.calm=true) (hN:X.N.Nodup) (hi:X.N[i]?=some x) (hx:Loc X.env.scope x) (hf:X.fn x=true∨X.env.scope.names.lookup x=some .local)
 (hj:X.N[j]?=some y) (hy:Loc X.env.scope y) (hg:X.fn y=true∨X.env.scope.names.lookup y=some .local)
 (hs1:(C_ [.Name x p1,.Name y p2] X.env).map (·.2)=Hn (.Name x p1) X.env :: (C_ [.Name y p2] X.env).map (·.2):=by kernel_rfl) (hs2:(C_ [.Name y p2] X.env).map (·.2)=Hn (.Name y p2) X.env :: (C_ [] X.env).map (·.2):=by kernel_rfl)
 (hn:(C_ [.Name x p1,.Name y p2] X.env).length=2:=by kernel_rfl) (hst:(C_ [.Name x p1,.Name y p2] X.env).findIdx? (·.1)=none:=by kernel_rfl):FG X (.Tuple [.Name x p1,.Name y p2] k pos) (gP i j) :=
 ⟨fun pins s σ H v u d ρ ρ' I r rd E e=>by
  unfold gP at e
  split at e
  · rename_i a c
    cases e
    obtain ⟨ad,xs,rfl,h1,h2⟩:=rd.tupE
    obtain ⟨va,vc,rfl,ra,rc⟩:=y9 h2
    refine thn (oQ (n:=2) hc (dQ (cq (i:=i) hN hi hx hf) (dQ (cq (i:=j) hN hj hy hg) k6 hs2) hs1) hn hst pins s σ H _ u (fun σ' H'=>H'=H∧σ'=(σ.set i (some va)).set j (some vc)) I r ⟨ad,_,rfl,SqT.of h1,rfl,va,[vc],rfl,vc,[],rfl,rfl,rfl,rfl⟩) fun _ s' ⟨σ',H',I',e1,e2⟩=>?_
    subst e1 e2
    exact ⟨_,_,I',.refl _,(E.set ra).set rc⟩
  · cases e⟩
end
structure WkG (K:ck) (J:It) (ds:List Dv) (H0:Hp):Prop where
 go:∀ i H,Same H0 H→i < ds.length→J.go i H
 stop:∀ H,Same H0 H→J.stop ds.length H
 yld:∀ i H x H',Same H0 H→i < ds.length→J.yld i H x H'→Same H H'∧∃ d,ds[i]?=some d∧Rep K H' d x
theorem Wk.toG {K:ck} {J:It} {ds:List Dv} {H0:Hp} (w:Wk K J ds H0):WkG K J ds H0 :=
 ⟨w.go,w.stop,fun i H x H' e hi y=>by
  obtain ⟨rfl,d,h1,h2⟩:=w.yld i H x H' e hi y
  exact ⟨.refl _,d,h1,h2⟩⟩
def OutG (X:Cx) (H:Hp) (o:Option (Rs (List Dv))) (R:It→Hp→Prop):Prop:=match o with
 | none=>False
 | some (.exc c)=>XW X c H
 | some (.ok ds)=>∀ J H',Same H H'→WkG X.K J ds H'→R J H'
theorem OutG.mono {X:Cx} {H H':Hp} {R:It→Hp→Prop} (e:Same H H'):∀ {o:Option (Rs (List Dv))},OutG X H o R→OutG X H' o R
 | none,h=>h
 | some (.exc _),h=>XW.mono h e
 | some (.ok _),h=>fun v H1 e1 r=>h v H1 (e.trans e1) r
structure FIG (X:Cx) (tg iter:Expr) (f:FnA):Prop where
 h:PI X tg iter fun σ H R=>∃ ρ,Envs X.K H σ ρ∧OutG X H (f ρ) R
theorem FI.toG {X:Cx} {tg iter:Expr} {f:FnA} (h:FI X tg iter f):FIG X tg iter f :=
 ⟨fun pins s σ H R I ⟨ρ,E,o⟩=>h.h pins s σ H R I ⟨ρ,E,by
  match hf:f ρ,o with
  | some (.exc c),o=>exact o
  | some (.ok ds),o=>exact fun J H' e w=>o J H' e w.toG⟩⟩
def eE (m:Nat) (cs:List (Str×Nat)) (ρ:Ev):Ev:=Gm m none ++ cs.map fun c=>(ρ[c.2]?).join
def jT (b:Dv→Ev→Option Ev) (tst:Option FnB) (elt:FnE) (cap:Ev):List Dv→Option (List Dv)
 | []=>some []
 | d :: ds=>match b d cap with
  | none=>none
  | some ρ=>match (match tst with | none=>(some (.ok true):Option (Rs Bool)) | some t=>t ρ) with
   | some (.ok true)=>(match elt ρ with
    | some (.ok y)=>(match jT b tst elt cap ds with | some ys=>some (y :: ys) | none=>none)
    | _=>none)
   | some (.ok false)=>jT b tst elt cap ds
   | _=>none
structure Cs (osc scope:Scope) (cs:List (Str×Nat)) (N:List Str):Prop where
 kind:scope.kind=.function
 cell:∀ y∈scope.names,y.2≠.cell
 names:∀ y∈scope.names,y.2=.local→scope.names.lookup y.1=some .local
 free:∀ y∈scope.names,y.2=.free→osc.names.lookup y.1=some .cell∨osc.names.lookup y.1=some .free
 caps:∀ c∈cs,N[c.2]?=some c.1∧scope.names.lookup c.1=some .free
def jU (m:Nat) (cs:List (Str×Nat)) (σ:L2.St):L2.St:=Gm m none ++ cs.map fun c=>(σ[c.2]?).join
theorem jV {α:Type} {m i:Nat} {v:α} {l:List (Option α)} (h:(Gm m (none:Option α) ++ l)[i]?=some (some v)):∃ k,i=m + k∧l[k]?=some (some v):=by
 by_cases hi:i < m
 · rw [Gg (by simpa using hi),Ic,if_pos hi] at h
   cases h
 · refine ⟨i - m,by omega,?_⟩
   rw [Fz (by simpa using hi)] at h
   simpa using h
theorem pG {K:ck} {H:Hp} {σ:L2.St} {ρ:Ev} (m:Nat) (cs:List (Str×Nat)) (E:Envs K H σ ρ):Envs K H (jU m cs σ) (eE m cs ρ):=by
 refine ⟨by simp [jU,eE],fun i d h=>?_⟩
 obtain ⟨k,rfl,hk⟩:=jV h
 rw [Ex] at hk
 cases hc:cs[k]? with
 | none=>rw [hc] at hk; simp at hk
 | some c =>
  rw [hc] at hk
  simp only [Ge,GP] at hk
  have h2:ρ[c.2]?=some (some d):=by
   cases q:ρ[c.2]? with
   | none=>rw [q] at hk; simp at hk
   | some o=>rw [q] at hk; simp at hk; rw [hk]
  obtain ⟨v,h3,h4⟩:=E.at' c.2 d h2
  refine ⟨v,?_,h4⟩
  unfold jU
  rw [Fz (by simp)]
  simp only [Hq,Kf,Ex,hc,Ge,h3]
  rfl
theorem jW {prog:Program} {w:w_} {A:u_} {R:Mh→c_→Prop} {s:c_} {elt target iter:Expr} {ifs:List Expr} {scope:Scope} {pos:Pos} {it acc:Value} {env:Env} (I:Nat→c_→Prop)
 (turn:∀ n s,I n s→l_ (s_ prog w) A (IY it) (fun r s₁=>match r with
   | none=>R (.ok .next) s₁
   | some v=>l_ (s_ prog w) A (I0 target it v) (fun _ s₀=>l_ (s_ prog w) A (Hn target env v) (fun _ s₂ =>
    l_ (s_ prog w) A (M4 ifs true fun c r=>if r=true then do let ok ← isTrue c env (eval c env); pure (Jb ok) else pure (Jb r)) (fun ok s₃ =>
     if ok=true then l_ (s_ prog w) A (eval elt env) (fun x s₄ =>
      l_ (s_ prog w) A (call (.builtin "list.append") [acc,x]) (fun _ s₅=>∃ m,m < n∧I m s₅) (Kp (s_ prog w) A env fun e s'=>R (.error e) s') s₄) (Kp (s_ prog w) A env fun e s'=>R (.error e) s') s₃
     else ∃ m,m < n∧I m s₃) (Kp (s_ prog w) A env fun e s'=>R (.error e) s') s₂) (Kp (s_ prog w) A env fun e s'=>R (.error e) s') s₀) (Kp (s_ prog w) A env fun e s'=>R (.error e) s') s₁) (Kp (s_ prog w) A env fun e s'=>R (.error e) s') s)
 (n:Nat) (h:I n s) :
 Jd (s_ prog w) A (.compLoop (.ListComp elt [⟨target,iter,ifs,0⟩] scope pos) 0 it acc env) R s:=by
 refine codeAny_loop rfl I (fun n s hI=>?_) n h
 show l_ _ A ((compTurn (.ListComp elt [⟨target,iter,ifs,0⟩] scope pos) 0 it acc env).onRaise (fun x=>do noteFrame x env; theTreesLotGoes x)) _ _ s
 refine wpAny_noted ?_
 rw [compTurn_list]
 refine a_ (wpAny_standAt (a_ (EO (turn n s hI) (fun r s₁ h₁=>?_) fun _ _ h'=>h')))
 cases r with
 | none=>exact d_ h₁
 | some v =>
  refine a_ (EO h₁ (fun _ s₀ h₀=>?_) fun _ _ h'=>h')
  refine a_ (EO h₀ (fun _ s₂ h₂=>a_ (EO h₂ (fun ok s₃ h₃=>?_) fun _ _ h'=>h')) fun _ _ h'=>h')
  cases ok with
  | false =>
   rw [if_neg p_] at h₃
   first
    | exact a_ (d_ (d_ ⟨rfl,h₃⟩))
    | exact d_ ⟨rfl,h₃⟩
    | (show l_ _ _ (again _) _ _ _; exact d_ ⟨rfl,h₃⟩)
  | true =>
   rw [if_pos rfl] at h₃
   first
    | exact a_ (a_ (EO h₃ (fun x s₄ h₄=>a_ (EO h₄ (fun _ s₅ h₅=>d_ (d_ ⟨rfl,h₅⟩)) fun _ _ h'=>h')) fun _ _ h'=>h'))
    | exact a_ (EO h₃ (fun x s₄ h₄=>a_ (EO h₄ (fun _ s₅ h₅=>d_ ⟨rfl,h₅⟩) fun _ _ h'=>h')) fun _ _ h'=>h')
def bI (m:Nat) (cs:List (Str×Nat)) (src:FnA) (b:Dv→Ev→Option Ev) (tst:Option FnB) (elt:FnE):FnE:=fun ρ=>bnd (src ρ) fun ds=>match jT b tst elt (eE m cs ρ) ds with
 | some ys=>if ys.length≤100000∧ds.length≤100000 then some (.ok (.lst ys)) else none
 | none=>none
theorem Ct {m:Nat} {cs:List (Str×Nat)} {src:FnA} {b:Dv→Ev→Option Ev} {tst:Option FnB} {fe:FnE} {ρ:Ev} {o:Rs Dv} (h:bI m cs src b tst fe ρ=some o) :
 (∃ c,src ρ=some (.exc c)∧o=.exc c)∨∃ ds ys,src ρ=some (.ok ds)∧jT b tst fe (eE m cs ρ) ds=some ys∧ds.length≤100000∧ys.length≤100000∧o=.ok (.lst ys):=by
 unfold bI at h
 match hf:src ρ with
 | none=>rw [hf] at h; cases h
 | some (.exc c)=>rw [hf] at h; cases h; exact .inl ⟨c,rfl,rfl⟩
 | some (.ok ds) =>
  rw [hf] at h
  dsimp only [bnd] at h
  match hm:jT b tst fe (eE m cs ρ) ds with
  | none=>rw [hm] at h; cases h
  | some ys =>
   rw [hm] at h
   dsimp only at h
   split at h
   · rename_i hl
     cases h
     exact .inr ⟨ds,ys,rfl,hm,hl.2,hl.1,rfl⟩
   · cases h
theorem zi (cs:List (Str×Nat)) (ρ:Ev) (d:Dv) (ρ':Ev) (h:gN 0 d (eE 1 cs ρ)=some ρ'):fgt [0] ρ'=eE 1 cs ρ:=by
 cases h
 rfl
theorem Cu (cs:List (Str×Nat)) (ρ:Ev) (d:Dv) (ρ':Ev) (h:gP 0 1 d (eE 2 cs ρ)=some ρ'):fgt [0,1] ρ'=eE 2 cs ρ:=by
 unfold gP at h
 split at h
 · cases h
   rfl
 · cases h
def dW:Nat→List Dv→List Dv
 | _,[]=>[]
 | k,d :: ds=>.tup [.int k,d] :: dW (k + 1) ds
theorem c5:∀ (ds:List Dv) (k:Nat),(dW k ds).length=ds.length
 | [],_=>rfl
 | d :: ds,k=>by show (dW (k + 1) ds).length + 1=ds.length + 1; rw [c5]
theorem jX:∀ (ds:List Dv) (k i:Nat) (d:Dv),ds[i]?=some d→(dW k ds)[i]?=some (.tup [.int ((k + i:Nat):Int),d])
 | [],_,_,_,h=>by simp at h
 | d :: ds,k,0,d',h=>by simp at h; subst h; rfl
 | d :: ds,k,i + 1,d',h=>by
  have q:=jX ds (k + 1) i d' (by simpa using h)
  show (Dv.tup [.int k,d] :: dW (k + 1) ds)[i + 1]?=_
  rw [Kj,q]
  have e:k + 1 + i=k + (i + 1):=by omega
  rw [e]
def Cv:List Nat→List V→L2.St→L2.St
 | i :: is,v :: vs,σ=>Cv is vs (σ.set i (some v))
 | _,_,σ=>σ
def zj:List Nat→List Dv→Ev→Ev
 | i :: is,d :: ds,ρ=>zj is ds (ρ.set i (some d))
 | _,_,ρ=>ρ
def we (is:List Nat):TGs:=fun vs σ H Q=>vs.length=is.length∧Q (Cv is vs σ) H
section
variable {X:Cx} {pos p1:Pos}
theorem mE {ts:List Expr} {t t':TGs} (h:PGs X ts t) (w:∀ vs σ H Q,t' vs σ H Q→t vs σ H Q):PGs X ts t' :=
 fun pins s σ H vs us Q I r q=>h pins s σ H vs us Q I r (w vs σ H Q q)
theorem zk:PGs X [] (we []):=mE k6 fun vs σ H Q ⟨l,q⟩=>by
 cases vs with
 | nil=>exact ⟨rfl,q⟩
 | cons v r=>cases l
theorem wf (i:Nat) {x:Str} {is:List Nat} {es:List Expr} (hN:X.N.Nodup) (hi:X.N[i]?=some x) (hx:Loc X.env.scope x) (hf:X.fn x=true∨X.env.scope.names.lookup x=some .local) (h:PGs X es (we is))
 (hs:(C_ (.Name x p1 :: es) X.env).map (·.2)=Hn (.Name x p1) X.env :: (C_ es X.env).map (·.2):=by kernel_rfl):PGs X (.Name x p1 :: es) (we (i :: is)) :=
 mE (dQ (cq (i:=i) hN hi hx hf) h hs) fun vs σ H Q ⟨l,q⟩=>by
  cases vs with
  | nil=>cases l
  | cons v r=>exact ⟨v,r,rfl,(⟨Nat.succ.inj l,q⟩:we is r (σ.set i (some v)) H Q)⟩
theorem Envs.setAll {K:ck} {H:Hp}:∀ (is:List Nat) {ds:List Dv} {vs:List V} {σ:L2.St} {ρ:Ev},Envs K H σ ρ→Reps K H ds vs→Envs K H (Cv is vs σ) (zj is ds ρ)
 | [],_,_,_,_,E,_=>E
 | _ :: _,[],vs,_,_,E,r=>by cases (show vs=[] from r); exact E
 | i :: is,d :: ds,vs,σ,ρ,E,r=>by
  obtain ⟨v,us,rfl,h,t⟩:∃ v us,vs=v :: us∧Rep K H d v∧Reps K H ds us:=r
  exact Envs.setAll is (E.set h) t
def Ef (is:List Nat) (ρ:Ev):Dv→Option Fl
 | .tup ds=>if ds.length=is.length then some (.nx (zj is ds ρ)) else none
 | _=>none
def Br (is:List Nat) (f:FnE):FnS:=fun ρ=>dk (f ρ) (Ef is ρ)
theorem zl {es:List Expr} {k:Nat} {e:Expr} {fa:FnE} {is:List Nat} (hc:X.calm=true) (h:PGs X es (we is)) (he:FE X e fa)
 (hn:(C_ es X.env).length=is.length:=by kernel_rfl) (hst:(C_ es X.env).findIdx? (·.1)=none:=by kernel_rfl)
 (hs:swapsWithSole [.Tuple es k p1] e pos.line X.env=pure false:=by kernel_rfl) (hw:swappedStores [.Tuple es k p1] e X.env=pure none:=by kernel_rfl)
 (h1:(C_ [.Tuple es k p1] X.env).map (·.2)=[Hn (.Tuple es k p1) X.env]:=by kernel_rfl):FS X (.Assign [.Tuple es k p1] e pos) (Br is fa) :=
 la (yi he.h (oQ (n:=is.length) hc h hn hst) hs hw h1) fun D σ H ρ E o=>⟨ρ,E,Out.bindS o fun d v H1 e r o1=>by
  cases d with
  | tup ds =>
   have o2:OutS X H1 (if ds.length=is.length then some (.nx (zj is ds ρ)) else none) D:=o1
   by_cases hl:ds.length=is.length
   · rw [if_pos hl] at o2
     obtain ⟨a,xs,rfl,h1,h2⟩:=r.tupE
     exact ⟨a,xs,rfl,SqT.of h1,h2.length.trans hl,h2.length.trans hl,o2 _ H1 (.refl H1) (Envs.setAll is (E.mono e) h2)⟩
   · rw [if_neg hl] at o2
     exact o2.elim
  | _=>exact o1.elim⟩
end
theorem aw {a b:FnS} {ρ ρ':Ev} (h:a ρ=some (.nx ρ')):bD a b ρ=b ρ':=by
 unfold bD; rw [h]; rfl
theorem wg {a b:FnS} {ρ:Ev} {d:Dv} (h:a ρ=some (.rt d)):bD a b ρ=some (.rt d):=by
 unfold bD; rw [h]; rfl
theorem aV {c:FnB} {f:FnS} {ρ:Ev} (h:c ρ=some (.ok false)):cV c f (fun ρ=>some (.nx ρ)) ρ=some (.nx ρ):=by
 unfold cV; rw [h]; rfl
theorem bU {i:Nat} {v:FnE} {ρ ρ':Ev} {d:Dv} (h:v ρ=some (.ok d)) (e:ρ.set i (some d)=ρ'):dN i v ρ=some (.nx ρ'):=by
 unfold dN; rw [h,← e]; rfl
theorem sH {v:FnE} {ρ:Ev} {d:Dv} (h:v ρ=some (.ok d)):gZ v ρ=some (.nx ρ):=by
 unfold gZ; rw [h]; rfl
theorem eK {v:FnE} {ρ:Ev} {d:Dv} (h:v ρ=some (.ok d)):bf v ρ=some (.rt d):=by
 unfold bf; rw [h]; rfl
theorem wj {is:List Nat} {v:FnE} {ρ ρ':Ev} {ds:List Dv} (h:v ρ=some (.ok (.tup ds))) (hl:ds.length=is.length) (e:zj is ds ρ=ρ'):Br is v ρ=some (.nx ρ'):=by
 unfold Br; rw [h]
 show (if _ then _ else _)=_
 rw [if_pos hl,e]
theorem wm {i:Nat} {js:List Nat} {src:FnA} {body:FnS} {ρ:Ev} {ds:List Dv} (h:src ρ=some (.ok ds)):vR i js src body ρ=g8 i js body ds ρ:=by
 unfold vR; rw [h]; rfl
theorem sI {a b:FnB} {ρ:Ev} (h:a ρ=some (.ok false)):bOr a b ρ=b ρ:=by unfold bOr; rw [h]; rfl
theorem zm {a b:FnB} {ρ:Ev} (h:a ρ=some (.ok true)):oD a b ρ=b ρ:=by unfold oD; rw [h]; rfl
theorem zn {a b:FnB} {ρ:Ev} (h:a ρ=some (.ok false)):oD a b ρ=some (.ok false):=by unfold oD; rw [h]; rfl
theorem lh {a:FnB} {ρ:Ev} {k:Bool} (h:a ρ=some (.ok k)):fW a ρ=some (.ok (!k)):=by unfold fW; rw [h]; rfl
theorem bC {f:FnE} {ρ:Ev} {k:Bool} (h:f ρ=some (.ok (.bl k))):fB f ρ=some (.ok k):=by unfold fB; rw [h]; rfl
theorem aP {g:Dv→Dv→Option (Rs Dv)} {f h:FnE} {ρ:Ev} {x y:Dv} (hf:f ρ=some (.ok x)) (hh:h ρ=some (.ok y)):f2 g f h ρ=g x y:=by unfold f2; rw [hf,hh]; rfl
theorem aQ {i:Nat} {ρ:Ev} {d:Dv} (h:ρ[i]?=some (some d)):ab i ρ=some (.ok d):=by unfold ab; rw [h]
theorem ao {f:FnE} {g:FnA} {ρ:Ev} {x:Dv} {xs:List Dv} (h:f ρ=some (.ok x)) (t:g ρ=some (.ok xs)):aa f g ρ=some (.ok (x :: xs)):=by unfold aa; rw [h,t]; rfl
theorem aK {ρ:Ev}:ag ρ=some (.ok []):=rfl
theorem fF {F:List Dv→Option (Rs Dv)} {n:Nat} {g:FnA} {ρ:Ev} {ds:List Dv} {d:Dv} (h:g ρ=some (.ok ds)) (hl:ds.length=n) (hF:F ds=some (.ok d)):ae F n g ρ=some (.ok d):=by
 unfold ae; rw [h]
 show (if _ then _ else _)=_
 rw [if_pos hl,hF]
theorem cW (F:List Dv→Option (Rs Dv)) {f:FnE} {ρ:Ev} {a d:Dv} (h:f ρ=some (.ok a)) (hF:F [a]=some (.ok d)):ae F 1 (aa f ag) ρ=some (.ok d):=fF (ao h aK) rfl hF
theorem fZ (F:List Dv→Option (Rs Dv)) {f g:FnE} {ρ:Ev} {a b d:Dv} (h:f ρ=some (.ok a)) (h':g ρ=some (.ok b)) (hF:F [a,b]=some (.ok d)):ae F 2 (aa f (aa g ag)) ρ=some (.ok d):=fF (ao h (ao h' aK)) rfl hF
theorem li {g:FnA} {ρ:Ev} {ds:List Dv} (h:g ρ=some (.ok ds)) (hl:ds.length≤100000):cf g ρ=some (.ok (.tup ds)):=by
 unfold cf; rw [h]
 show (if _ then _ else _)=_
 rw [if_pos hl]
theorem zo {f g:FnE} {ρ:Ev} (h:f ρ=some (.ok (.bl false))):kT f g ρ=some (.ok (.bl false)):=by unfold kT; rw [h]; rfl
theorem zp {f g:FnE} {ρ:Ev} (h:f ρ=some (.ok (.bl true))):kT f g ρ=g ρ:=by unfold kT; rw [h]; rfl
theorem cg {g:List Dv→Option (Rs Dv)} {a:FnA} {ρ:Ev} {ds:List Dv} (h:a ρ=some (.ok ds)):fB1 g a ρ=g ds:=by unfold fB1; rw [h]; rfl
theorem c6 {n:Nat} {B:FnS} {ds:List Dv} {d:Dv} (h:B (ds.map some ++ Gm (n - ds.length) none)=some (.rt d)):bR n B ds=some (.ok d):=by
 unfold bR; rw [h]
section
variable {prog:Program} {w:w_} {A:u_} {E:Value→c_→Prop}
end
section
variable {X:Cx} {pos p1:Pos}
end
structure Aft (X:Cx) (e:Addr) (Ts:List Addr) (h h':Heap):Prop where
 keep:∀ b o,h.get? b=some o→b≠e→b ∉ Ts→b ∉ frs X.stack→h'.get? b=some o
 slot:∀ b o,h.get? b=some o→b∈frs X.stack→∃ sl,h'.get? b=some { o with slots:=sl }
section
variable {X:Cx} {pins:List (Addr×Obj)} {σ:L2.St} {H:Hp} {s:c_} {e:Addr} {Ts:List Addr} {h':Heap}
theorem Aft.any {h:Heap} (A:Aft X e Ts h h') {b:Addr} {o:Obj} (q:h.get? b=some o) (n1:b≠e) (n2:b ∉ Ts):∃ sl,h'.get? b=some { o with slots:=sl }:=by
 by_cases hb:b∈frs X.stack
 · exact A.slot b o q hb
 · exact ⟨o.slots,A.keep b o q n1 n2 hb⟩
end
section
variable {X:Cx} {pins:List (Addr×Obj)} {σ:L2.St} {H:Hp} {s:c_} {e:Addr} {cls:Value}
theorem Fly.imp {N N':Addr→Prop} {h:Heap} (F:Fly N H e cls h) (k:∀ a,N a→N' a):Fly N' H e cls h:=by
 obtain ⟨h1,h2,oe,vs,a0,q1,q2,q3,q4,q5⟩:=F
 refine ⟨h1,k _ h2,oe,vs,a0,q1,q2,q3,q4,?_⟩
 rcases q5 with q5 | ⟨T,oT,ts,r1,r2,r3,r4,r5⟩
 · exact .inl q5
 · exact .inr ⟨T,oT,ts,r1,r2,r3,k _ r4,r5⟩
end
def CXE (P:Program) (w:w_):CXT:=fun outer H s E ev s'=>∃ e cls H',ev=.ref e∧s'.os=s.os∧Jf s'.gens∧Un (frs outer) [] H H' s.heap s'.heap∧HOk P w H' s'.heap∧Fly (fun a=>s.heap.get? a=none) H' e cls s'.heap∧E cls none H'
def spE (K:ck) (F:List Dv→Option (Rs Dv)) (n:Nat):Sp:=fun vs H Q E=>∃ ds,Reps K H ds vs∧ds.length=n∧match F ds with
 | some (.ok d)=>∀ v H',Same H H'→Rep K H' d v→Q v H'
 | some (.exc c)=>∀ C H',GO K EA (xnm c)=some (some (.ref C))→Same H H'→E (.ref C) none H'
 | none=>False
def Eg (P:Program) (w:w_) (K:ck) (mg:Str→Option Value) (base:Heap) (x:Str) (k:Nat) (ps:List Str) (F:List Dv→Option (Rs Dv)):Prop :=
 ∃ f fd,FnOk P w K mg base (CXE P w) k f fd ps (spE K F ps.length)∧mg x=some (.ref f)∧F0 K (.ref f)=true∧Binds K fd ps []
section
variable {X:Cx} {k n:Nat} {ps:List Str} {x:Str} {p pos:Pos} {e:Expr} {es:List Expr} {F:List Dv→Option (Rs Dv)} {g:FnA}
end
theorem iV {P:Program} {w:w_} {H:Hp} {h:Heap} (ok:HOk P w H h) {a:Addr} {u:HO} (q:H a=some u):∃ o,h.get? a=some o:=by
 have hk:=ok a u q
 clear q
 induction u with
 | lst xs=>obtain ⟨_,_,_,_,z⟩:=hk; exact ⟨_,z⟩
 | tup xs=>obtain ⟨_,_,_,o,z,_⟩:=hk; exact ⟨_,z⟩
 | dK kvs=>obtain ⟨_,_,_,_,o,_,_,z,_⟩:=hk; exact ⟨_,z⟩
 | dT kvs=>obtain ⟨_,_,_,_,o,_,_,z,_⟩:=hk; exact ⟨_,z⟩
 | set S n=>obtain ⟨o,_,_,_,z,_⟩:=hk; exact ⟨_,z⟩
 | ins C dx fs=>obtain ⟨_,_,_,z,_⟩:=hk; exact ⟨_,z⟩
 | own y=>obtain ⟨_,z⟩:=hk; exact ⟨_,z⟩
 | xd fs=>obtain ⟨_,⟨_,_,_,z,_⟩,_⟩:=hk; exact ⟨_,z⟩
 | rng lo hi=>obtain ⟨_,_,_,z⟩:=hk; exact ⟨_,z⟩
 | frz ob u ih=>obtain ⟨z,_⟩:=hk; exact ⟨_,z⟩
 | tbl ps=>exact ⟨_,(show h.get? a=some _ from hk)⟩
 | met f y=>exact ⟨_,(show h.get? a=some _ from hk)⟩
 | ext φ=>obtain ⟨_,⟨_,z⟩,_⟩:=hk; exact ⟨_,z⟩
theorem zq {P:Program} {w:w_} {H:Hp} {h:Heap} (ok:HOk P w H h) {a:Addr} (n:h.get? a=none):H a=none:=by
 cases q:H a with
 | none=>rfl
 | some u =>
  obtain ⟨o,z⟩:=iV ok q
  rw [n] at z
  cases z
abbrev bmV:List Value:=[.type "ValueError",.type "Exception",.type "BaseException",.type "object"]
structure XC (K:ck) (c:Nat) (C:Addr):Prop where
 nm:GO K EA (xnm c)=some (some (.ref C))
 ex:PySem.W.excIn K C bmV "ValueError.__new__"=true
section
variable {X:Cx} {a:Expr} {fa:FnE} {np cpos pos:Pos} {x:Str} {C:Addr}
end
end FD
namespace FD
open PySem PySem.Spec PyProof.Rows L2 PySem.W Builtin.Getset_descriptor
section
variable {prog:Program} {w:w_} {A:u_} {E:Value→c_→Prop} {s:c_} {K:ck} {x C:Addr} {ox:Obj}
structure XI (K:ck) (C:Addr):Prop where
 ga:findIn K (.ref C) "__getattribute__"=some (some (.builtin "BaseException.__getattribute__"))
 gt:findIn K (.ref C) "__getattr__"=some none
 cl:findIn K (.ref C) "__class__"=some (some (.builtin "object.__class__"))
 sp:specialIn K (.builtin "object.__class__") "__get__"=some (some (.builtin "getset_descriptor.__get__"))
 tk:takesIn K (.builtin "object.__class__")=some true
 ob:mroIn K C (.type "object")=some true
 be:mroIn K C (.type "BaseException")=some true
end
section
variable {X:Cx} {p pos pT:Pos} {a:Expr} {fa:FnE} {T:Str}
end
end FD
namespace FD
open PySem PySem.Spec PyProof.Rows L2 PySem.W
section
variable {X:Cx} {pins:List (Addr×Obj)} {σ:L2.St} {H:Hp} {s:c_}
end
structure RoomM (k:Nat) (A:u_):Prop where
 dp:A.depth + 3 * k + 5 < recursionLimit
 un:A.units + 16 * k + 200 < cLine
theorem RoomM.of {k:Nat} {A:u_} (r:Room k A):RoomM k A:=⟨r.dp,r.un⟩
theorem RoomM.mono {j k:Nat} {A:u_} (r:RoomM k A) (h:j≤k):RoomM j A:=⟨by have:=r.dp; omega,by have:=r.un; omega⟩
theorem RoomM.deeper {k:Nat} {A:u_} (r:RoomM (k + 1) A) (env:Env):RoomM k (A.deeper env) :=
 ⟨by have:=r.dp; show A.depth + 1 + 3 * k + 5 < _; omega,by have:=r.un; show A.units + 3 + 16 * k + 200 < _; omega⟩
theorem RoomM.units {k:Nat} {A:u_} (r:RoomM k A):A.units + 64 < cLine:=by have:=r.un; omega
structure FnM (P:Program) (w:w_) (K:ck) (mg:Str→Option Value) (base:Heap) (k:Nat) (f:Addr) (fd:FL) (ps:List Str) (F:List Dv→Option (Rs Dv)):Prop where
 run:∀ (A:u_) (outer:List Env) (s:c_) (H:Hp) (args:Args) (us:List Value) (vs:List V) (ds:List Dv) (d:Dv) (Q:VK),RoomM k A→Env0 P w K mg base A outer s H→KB s fd args (ps.zip us)→Vals vs us →
  Reps K H ds vs→ds.length=ps.length→F ds=some (.ok d)→(∀ v H',Same H H'→Rep K H' d v→Q v H')→Jd (s_ P w) A (.call (.ref f) args) (CR CX0 outer P w H s Q E0) s
def Eh (P:Program) (w:w_) (K:ck) (mg:Str→Option Value) (base:Heap) (x:Str) (k:Nat) (ps:List Str) (F:List Dv→Option (Rs Dv)):Prop :=
 ∃ f fd,FnM P w K mg base k f fd ps F∧mg x=some (.ref f)∧F0 K (.ref f)=true∧Binds K fd ps []
section
variable {X:Cx} {x:Str} {p pos:Pos} {e:Expr} {es:List Expr} {g:FnA} {n:Nat}
end
section
variable {X:Cx} {pl ps:List (Addr×Obj)} {σ:L2.St} {H:Hp} {s:c_} {E:Value→c_→Prop} {e:Addr}
end
section
variable {X:Cx} {ex hx:Expr} {f g:FnE} {J n:Str} {CJ:Addr} {np rp rp2 hpos pos:Pos}
end
end FD
namespace FD
open PySem PySem.Spec PyProof.Rows L2
section
variable {X:Cx} {apos cpos:Pos} {e o:Expr} {es:List Expr} {ga:FnA} {fo:FnE}
end
section
variable {X:Cx} {a b c:Expr} {fa fb fc:FnE} {pos:Pos}
end
section
variable {X:Cx}
end
end FD
namespace FD
open PySem PySem.Spec PyProof.Rows L2 PySem.W
structure XAll (K:ck) (m:Nat) (cls:Nat→Addr) (CJ:Addr):Prop where
 at_:∀ c,c < m→nsIn K EA (xnm c)=some (some (.ref (cls c)))∧excIn K (cls c) bmV "ValueError.__new__"=true∧XI K (cls c)∧mroIn K (cls c) (.ref CJ)=some true∧kitOne K (.ref (cls c)) (.type "ValueError")=some true∧∀ d,d < m→kitOne K (.ref (cls c)) (.ref (cls d))=some (c == d)
 exJ:excIn K CJ bmV "ValueError.__new__"=true
section
variable {K:ck} {m:Nat} {cls:Nat→Addr} {CJ:Addr} (x:XAll K m cls CJ)
include x
theorem XAll.same {c:Nat} {C:Addr} (h:c < m) (q:nsIn K EA (xnm c)=some (some (.ref C))):C=cls c:=by
 have z:=(x.at_ c h).1
 rw [q] at z
 cases z
 rfl
theorem XAll.xk:∀ c C,c < m→nsIn K EA (xnm c)=some (some (.ref C))→excIn K C bmV "ValueError.__new__"=true∧mroIn K C (.ref CJ)=some true:=fun c C h q=>by
 rw [x.same h q]
 exact ⟨(x.at_ c h).2.1,(x.at_ c h).2.2.2.1⟩
end
end FD
namespace FD
open PySem
end FD
namespace FD
open PySem PySem.Spec PyProof.Rows L2
section
variable {X:Cx}
end
section
variable {X:Cx}
def bg (x y:Dv):Option (Rs Dv):=match x,y with
 | .tup a,.tup b=>if a.length + b.length≤100000 then some (.ok (.tup (a ++ b))) else none
 | x,y=>gW x y
theorem sJ {prog:Program} {w:w_} {A:u_} {E:Value→c_→Prop} {s:c_} {t b:Addr} {ws:List Value} {Q:Value→c_→Prop} (ht:MT s.heap t #[]) (hb:MT s.heap b ws.toArray) (h0:Q (.ref b) s) :
 l_ (s_ prog w) A (GN .Add (.ref t) (.ref b)) Q E s:=by
 obtain ⟨⟨cls,dd,data,sl⟩,ho,hc,n,hd⟩:=id ht
 obtain ⟨⟨cls2,dd2,data2,sl2⟩,ho2,hc2,n2,hd2⟩:=id hb
 simp only at hc hd hc2 hd2
 subst hc hd hc2 hd2
 exact LU ⟨_,ho,rfl⟩ ⟨_,ho2,rfl⟩ J6 Lw Il Ib (HL _ _)
  (tuple_addW0 t b #[] ws.toArray n n2 dd dd2 sl sl2 (by simp)) ⟨ho,ho2,h0⟩
def uP (K:ck):R2:=fun x y H Q=>∃ a b ys,x=.ref a∧y=.ref b∧SqT K H a []∧SqT K H b ys∧Q (.ref b) H
theorem sL:OpR X (GN .Add) (uP X.K):=by
 intro pins s σ H x y v u Q I rx ry h
 obtain ⟨a,b,ys,rfl,rfl,ha,hb,q⟩:=h
 cases rx
 cases ry
 obtain ⟨its,r1,p1,_⟩:=I.tuple ha
 obtain ⟨its2,r2,p2,_⟩:=I.tuple hb
 cases r1
 exact sJ p1 p2 ⟨.ref b,H,I,rfl,q⟩
def zr (X:Cx):R2:=fun x y H Q=>vU x y H Q∨(yu X.K x y H Q∨uP X.K x y H Q)
theorem zt:OpR X (GN .Add) (zr X):=o_add.or (op_catT.or sL)
theorem pH {x y:Dv} (h:∀ a b,¬ (x=.tup a∧y=.tup b)):bg x y=gW x y:=by
 unfold bg
 split
 · rename_i a b
   exact absurd ⟨rfl,rfl⟩ (h a b)
 · rfl
theorem zu:GOp X (zr X) bg:=by
 intro dx dy x y H Q rx ry o
 by_cases hc:∃ a b,dx=.tup a∧dy=.tup b
 · obtain ⟨a,b,rfl,rfl⟩:=hc
   have o':Out X H (if a.length + b.length≤100000 then some (.ok (.tup (a ++ b))) else none) Q:=o
   split at o'
   · rename_i hl
     obtain ⟨p,xs,rfl,h1,q1⟩:=rx.tupE
     obtain ⟨p2,ys,rfl,h2,q2⟩:=ry.tupE
     cases xs with
     | nil =>
      have ha:a=[]:=by
       have:=q1.length
       exact Gr.mp this.symm
      subst ha
      exact .inr (.inr ⟨p,p2,ys,rfl,rfl,SqT.of h1,SqT.of h2,o' _ H (.refl H) ⟨p2,ys,rfl,h2,by simpa using q2⟩⟩)
     | cons x0 xs =>
      refine .inr (.inl ⟨p,p2,x0 :: xs,ys,rfl,rfl,SqT.of h1,SqT.of h2,by simp,by rw [q1.length,q2.length]; exact bn hl,fun hy=>?_,fun hy l hl=>o' _ _ (aq hl _) ⟨l,_,rfl,ai,Reps.mono (aq hl _) _ _ (q1.append q2)⟩⟩)
      subst hy
      have hb:b=[]:=Gr.mp q2.length.symm
      subst hb
      exact o' _ H (.refl H) ⟨p,_,rfl,h1,by simpa using q1⟩
   · exact o'.elim
 · rw [pH (fun a b h=>hc ⟨a,b,h⟩)] at o
   exact .inl (y0 dx dy x y H Q rx ry o)
theorem dB {prog:Program} {w:w_} {A:u_} {E:Value→c_→Prop} {s:c_} {t sl:Addr} {items:Array Value} {vl vu:Value} {lo hi:Option Int} {Q:Value→c_→Prop} (ht:MT s.heap t items) (hs:s.heap.IsSliceOf sl vl vu .none) (pl:Kw vl lo) (pu:Kw vu hi)
 (hw:HT.sIx items.size 0 lo=0∧HT.sIx items.size items.size hi=items.size) (h:Q (.ref t) s):l_ (s_ prog w) A (Kq (.ref t) (.ref sl)) Q E s:=by
 obtain ⟨os,hos,hcs,hds⟩:=id hs
 have hTs:s.TypeIs (.ref sl) "slice":=⟨os,hos,hcs⟩
 unfold Kq
 try with_reducible refine FB ?_
 first | refine a_ (d_ ?_) | skip
 refine a_ (wpAny_sequenceKey ht.typeIs (by decide) ?_)
 refine a_ (Fj (name:=b_ "__getitem__") ht.typeIs Fe
  (Ft Fe ht.typeIs entry_tuple_getitem ?_ (args_tuple_getitem _ _)))
 show l_ _ _ (Jw (.ref t) >>= _) _ _ s
 refine a_ (tupleItemsOf_ ht ?_)
 refine a_ (Ih hTs ?_)
 rw [if_pos (by decide)]
 refine a_ (HT.sliceApplied_gen hs pl pu ?_)
 have hyes:(((HT.sIx items.size 0 lo:Nat):Int) == 0 && (1:Int) == 1 && (HT.sIx items.size items.size hi - HT.sIx items.size 0 lo) == items.size)=true:=by
  rw [hw.1,hw.2]
  simp
 show l_ _ _ (if (((HT.sIx items.size 0 lo:Nat):Int) == 0 && (1:Int) == 1 && (HT.sIx items.size items.size hi - HT.sIx items.size 0 lo) == items.size)=true then _ else _) _ _ s
 rw [if_pos hyes]
 refine a_ (a_ (Ih ht.typeIs (d_ ?_)))
 rw [if_pos (by decide)]
 exact a_ (II (d_ ⟨_,rfl,d_ h⟩))
def Ei (K:ck):V→Option Int→Option Int→Hp→VK→Prop:=fun x lo hi H Q=>∃ a xs,x=.ref a∧SqT K H a xs ∧
 (HT.sIx xs.length 0 lo=0∧HT.sIx xs.length xs.length hi=xs.length)∧Q (.ref a) H
theorem sM:SlR X (Ei X.K):=by
 intro pins s σ H x v vl vu lo hi sl Q I rx hs pl pu h
 obtain ⟨a,xs,rfl,hx,hw,q⟩:=h
 cases rx
 obtain ⟨its,r,ht,hz⟩:=I.tuple hx
 have hlen:its.toArray.size=xs.length:=by rw [x_]; exact r.length.symm
 refine ⟨"tuple",_,Fe.lookup,ht.typeIs,?_⟩
 exact dB ht hs pl pu (by rw [hlen]; exact hw) ⟨.ref a,H,I,rfl,q⟩
def DD (x:Dv) (lo hi:Option Int):Option (Rs Dv):=match x with
 | .tup xs=>some (.ok (.tup (xS xs lo hi)))
 | x=>Dy x lo hi
def iW (fa:FnE) (fl fh:FnO):FnE:=fun ρ=>bnd (fa ρ) fun x=>bnd (fl ρ) fun lo=>bnd (fh ρ) fun hi=>DD x lo hi
theorem nN {α:Type} {xs:List α} {lo hi:Option Int} (h:HT.sIx xs.length 0 lo=0∧HT.sIx xs.length xs.length hi=xs.length):xS xs lo hi=xs:=by
 unfold xS
 rw [h.1,h.2]
 simp
theorem wn {a:Expr} {lo hi:Option Expr} {fa:FnE} {fl fh:FnO} {p2 pos:Pos} (ha:FE X a fa) (hl:FO X lo fl) (hh:FO X hi fh):FE X (.Subscript a (.Slice lo hi none p2) pos) (iW fa fl fh) :=
 cv (sd ((sl_str.or vH).or (sl_tup.or sM)) ha.h hl.h hh.h) fun σ H Q ρ E o=>⟨ρ,E,Out.bind o fun d v H1 e1 r1 o1=>⟨ρ,E.mono e1,jQ o1 fun l H2 e2 o2=>⟨ρ,(E.mono e1).mono e2,jQ o2 fun u H3 e3 o3=>by
  have r3:=Rep.mono e3 d v (Rep.mono e2 d v r1)
  cases d <;> try exact (show False from o3).elim
  · rename_i z
    unfold DD Dy at o3
    dsimp only at o3
    split at o3
    · rename_i hz
      exact .inl (.inl ⟨z,r3,bn hz,o3 _ H3 (.refl H3) rfl⟩)
    · exact o3.elim
  · rename_i ds
    obtain ⟨a',xs,rfl,h1,h2⟩:=r3.tupE
    have hlen:=h2.length
    by_cases hw:HT.sIx xs.length 0 l=0∧HT.sIx xs.length xs.length u=xs.length
    · refine .inr (.inr ⟨a',xs,rfl,SqT.of h1,hw,o3 _ H3 (.refl H3) ⟨a',xs,rfl,h1,?_⟩⟩)
      rw [nN (by rw [← hlen]; exact hw)]
      exact h2
    · refine .inr (.inl ⟨a',xs,rfl,SqT.of h1,hw,fun p hp=>o3 _ _ (aq hp _) ⟨p,_,rfl,ai,Reps.mono (aq hp _) _ _ ?_⟩⟩)
      unfold uC xS
      rw [h2.length]
      exact (h2.drop _).take _
  · rename_i ds
    obtain ⟨a',xs,rfl,h1,h2⟩:=r3.lstE
    refine .inl (.inr ⟨a',xs,rfl,SqL.of h1,fun p hp=>o3 _ _ (aq hp _) ⟨p,_,rfl,ai,Reps.mono (aq hp _) _ _ ?_⟩⟩)
    unfold uC xS
    rw [h2.length]
    exact (h2.drop _).take _⟩⟩⟩
def inP (x:Dv) (ys:List Dv):Option Bool:=if okP x && decide ((bp x).depth≤63) && FX (toPys ys) then some ((toPys ys).any fun y=>EW y (bp x)) else none
def zv (x y:Dv):Option Bool:=match vX x y with
 | some b=>some b
 | none=>match y with
  | .lst ys=>inP x ys
  | .tup ys=>inP x ys
  | _=>none
def inX (x y:Dv):Option (Rs Dv):=match zv x y with
 | some b=>some (.ok (.bl b))
 | none=>none
def bu (x y:Dv):Option (Rs Dv):=match zv x y with
 | some b=>some (.ok (.bl (!b)))
 | none=>none
def Bs (X:Cx) (neg:Bool):R2:=fun x y H Q=>∃ dx ys b,Rep X.K H dx x∧(Rep X.K H (.lst ys) y∨Rep X.K H (.tup ys) y)∧inP dx ys=some b∧Q (.bl (if neg then !b else b)) H
theorem zw (hu:X.A.units + 64 < cLine):OpR X (EF .In) (Bs X false):=by
 intro pins s σ H x y v u Q I rx ry h
 obtain ⟨dx,ys,b,qx,qy,hb,q⟩:=h
 unfold inP at hb
 split at hb
 · rename_i hc
   cases hb
   obtain ⟨⟨c1,c2⟩,c3⟩:(okP dx=true∧(bp dx).depth≤63)∧FX (toPys ys)=true:=by simpa using hc
   obtain ⟨as,ra⟩:=Rep.reads I dx x v qx rx (Fa.mp c1).1
   have hd:X.A.units + 1 + min (GJ (toPys ys)) (bp dx).depth < cLine:=by
    have:=Ke (GJ (toPys ys)) (bp dx).depth
    omega
   rcases qy with qy | qy
   · obtain ⟨bs,rb⟩:=Rep.reads I (.lst ys) y u qy ry (by simpa [bp,Fm] using c3)
     exact SeqAt.in_list_reads rb ra c3 (Fa.mp c1).1 hd ⟨.bl _,H,I,rfl,q⟩
   · obtain ⟨bs,rb⟩:=Rep.reads I (.tup ys) y u qy ry (by simpa [bp,Fm] using c3)
     exact SeqAt.in_tuple_reads rb ra c3 (Fa.mp c1).1 hd ⟨.bl _,H,I,rfl,q⟩
 · cases hb
theorem pI (hu:X.A.units + 64 < cLine):OpR X (EF .NotIn) (Bs X true):=by
 intro pins s σ H x y v u Q I rx ry h
 obtain ⟨dx,ys,b,qx,qy,hb,q⟩:=h
 unfold inP at hb
 split at hb
 · rename_i hc
   cases hb
   obtain ⟨⟨c1,c2⟩,c3⟩:(okP dx=true∧(bp dx).depth≤63)∧FX (toPys ys)=true:=by simpa using hc
   obtain ⟨as,ra⟩:=Rep.reads I dx x v qx rx (Fa.mp c1).1
   have hd:X.A.units + 1 + min (GJ (toPys ys)) (bp dx).depth < cLine:=by
    have:=Ke (GJ (toPys ys)) (bp dx).depth
    omega
   rcases qy with qy | qy
   · obtain ⟨bs,rb⟩:=Rep.reads I (.lst ys) y u qy ry (by simpa [bp,Fm] using c3)
     exact SeqAt.notIn_list_reads rb ra c3 (Fa.mp c1).1 hd ⟨.bl _,H,I,rfl,q⟩
   · obtain ⟨bs,rb⟩:=Rep.reads I (.tup ys) y u qy ry (by simpa [bp,Fm] using c3)
     exact SeqAt.notIn_tuple_reads rb ra c3 (Fa.mp c1).1 hd ⟨.bl _,H,I,rfl,q⟩
 · cases hb
def DE (X:Cx):R2:=fun x y H Q=>Ce X.K x y H Q∨Bs X false x y H Q
def pJ (X:Cx):R2:=fun x y H Q=>lc X.K x y H Q∨Bs X true x y H Q
theorem Cw (hu:X.A.units + 64 < cLine):OpR X (EF .In) (DE X):=o_in.or (zw hu)
theorem sN (hu:X.A.units + 64 < cLine):OpR X (EF .NotIn) (pJ X):=o_notIn.or (pI hu)
theorem Cy:GOp X (DE X) inX:=by
 intro dx dy x y H Q rx ry o
 unfold inX zv at o
 match h0:vX dx dy with
 | some b =>
  rw [h0] at o
  exact .inl (Dx dx dy x y H Q rx ry (by unfold inD; rw [h0]; exact o))
 | none =>
  rw [h0] at o
  cases dy <;> try exact (show False from o).elim
  · rename_i ys
    match hp:inP dx ys with
    | none=>simp only [hp] at o; exact (show False from o).elim
    | some b=>simp only [hp] at o; exact .inr ⟨dx,ys,b,rx,.inr ry,hp,o _ H (.refl H) rfl⟩
  · rename_i ys
    match hp:inP dx ys with
    | none=>simp only [hp] at o; exact (show False from o).elim
    | some b=>simp only [hp] at o; exact .inr ⟨dx,ys,b,rx,.inl ry,hp,o _ H (.refl H) rfl⟩
theorem sO:GOp X (pJ X) bu:=by
 intro dx dy x y H Q rx ry o
 unfold bu zv at o
 match h0:vX dx dy with
 | some b =>
  rw [h0] at o
  exact .inl (pE dx dy x y H Q rx ry (by unfold jP; rw [h0]; exact o))
 | none =>
  rw [h0] at o
  cases dy <;> try exact (show False from o).elim
  · rename_i ys
    match hp:inP dx ys with
    | none=>simp only [hp] at o; exact (show False from o).elim
    | some b=>simp only [hp] at o; exact .inr ⟨dx,ys,b,rx,.inr ry,hp,o _ H (.refl H) rfl⟩
  · rename_i ys
    match hp:inP dx ys with
    | none=>simp only [hp] at o; exact (show False from o).elim
    | some b=>simp only [hp] at o; exact .inr ⟨dx,ys,b,rx,.inl ry,hp,o _ H (.refl H) rfl⟩
end
abbrev wo (its:List Value) (n:Nat):Obj:={ cls:=.type "list",data:=.seq its.toArray n }
section
variable {X:Cx} {pins:List (Addr×Obj)} {σ:L2.St} {H:Hp} {s:c_} {a:Addr} {xs:List V}
theorem Inv.untrack (I:Inv X pins σ (upd H a (.lst xs)) s) (ha:H a=none) (hex:X.ex=[]):∃ its n,Vals xs its∧xs.length≤sizeLine∧(∀ o,X.s₀.heap.get? a=some o→X.H₀ a≠none)∧(∀ p∈X.pn ++ pins,p.1≠a)∧Inv X (pins ++ [(a,wo its n)]) σ H s:=by
 obtain ⟨z,its,n,rv,hl,e⟩:=I.lstM (l:=a) (xs:=xs) ai
 have hb:∀ b u,H b=some u→b≠a:=fun b u q=>ak q ha
 have low:∀ b,upd H a (.lst xs) b=none→H b=none:=fun b q=>by
  by_cases hba:b=a
  · rw [hba]; exact ha
  · rw [am hba] at q; exact q
 have dn:∀ b u,upd H a (.lst xs) b=some u→(∀ ys,u≠.lst ys)→H b=some u:=fun b u q hu=>by
  by_cases hba:b=a
  · rw [hba,ai] at q
    exact absurd (EU q).symm (hu xs)
  · rw [am hba] at q; exact q
 have nfs:a ∉ X.fs:=fun hm=>by
  obtain ⟨_,o,ho,_⟩:=I.ok.funs.mem hm
  have:=I.base.free a o ho (I.ok.frf a hm) (by rw [hex]; simp)
  rw [ai] at this
  cases this
 have npin:∀ p∈X.pn ++ pins,p.1≠a:=fun p hp w=>by
  have:=(I.pin p hp).2.1
  rw [w,ai] at this
  cases this
 refine ⟨its,n,rv,z,fun o ho h0=>?_,npin,⟨I.ok,I.os,I.bare,⟨I.base.keep,I.base.slot,fun b o q n hx=>low b (I.base.free b o q n hx),I.base.there,fun b ys q=>dn b _ (I.base.tups b ys q) (fun _ w=>by cases w),fun b o u q=>dn b _ (I.base.frzs b o u q) (fun _ w=>by cases w),fun b ps q=>?_⟩,I.loc,I.cell,low _ I.free,fun x c q=>low _ (I.freeC x c q),fun p hp=>?_,fun b u q=>?_,I.len⟩⟩
 · have:=I.base.free a o ho h0 (by rw [hex]; simp)
   rw [ai] at this
   cases this
 · obtain ⟨more,q'⟩:=I.base.tbls b ps q
   exact ⟨more,dn b _ q' (fun _ w=>by cases w)⟩
 · rcases A_.mp hp with h1 | h1
   · obtain ⟨q1,q2,q3⟩:=I.pin p (E7 _ h1)
     exact ⟨q1,low _ q2,q3⟩
   · rcases A_.mp h1 with h1 | h1
     · obtain ⟨q1,q2,q3⟩:=I.pin p (rl _ h1)
       exact ⟨q1,low _ q2,q3⟩
     · simp only [EE] at h1
       subst h1
       refine ⟨e,ha,fun w=>?_,nfs,fun v w=>by cases w⟩
       obtain ⟨m,⟨o,es,ep,ho,hd,_⟩,_⟩:=I.loc
       have w':a=X.env.locals:=w
       rw [← w',e] at ho
       cases ho
       cases hd
 · have hq:upd H a (.lst xs) b=some u:=by rw [am (hb b u q)]; exact q
   refine (I.hok b u hq).stay (fun _ _ _ w=>w) (fun c w=>dn c _ w (fun _ w=>by cases w)) fun c ys w=>dn c _ w (fun _ w=>by cases w)
theorem Inv.retrack {its:List Value} {n:Nat} (I:Inv X (pins ++ [(a,wo its n)]) σ H s) (rv:Vals xs its) (hz:xs.length≤sizeLine) (h0:∀ o,X.s₀.heap.get? a=some o→X.H₀ a≠none) (hp0:∀ p∈X.pn ++ pins,p.1≠a):H a=none∧Inv X pins σ (upd H a (.lst xs)) s:=by
 obtain ⟨e,ha,nL,nf,nc⟩:=I.pin (a,wo its n) (rl _ (rl _ (by simp)))
 have up:∀ b u,H b=some u→upd H a (.lst xs) b=some u:=fun b u q=>by rw [am (ak q ha)]; exact q
 have lo:∀ b,H b=none→b≠a→upd H a (.lst xs) b=none:=fun b q h=>by rw [am h]; exact q
 refine ⟨ha,⟨I.ok,I.os,I.bare,⟨I.base.keep,I.base.slot,fun b o q n hx=>lo b (I.base.free b o q n hx) (fun w=>h0 o (w ▸ q) (w ▸ n)),I.base.there,fun b ys q=>up b _ (I.base.tups b ys q),fun b o u q=>up b _ (I.base.frzs b o u q),fun b ps q=>?_⟩,I.loc,I.cell,lo _ I.free (GE nL),fun x c q=>lo _ (I.freeC x c q) (fun w=>?_),fun p hp=>?_,fun b u q=>?_,I.len⟩⟩
 · obtain ⟨more,q'⟩:=I.base.tbls b ps q
   exact ⟨more,up b _ q'⟩
 · obtain ⟨v,o,ho,hd⟩:=I.cell x c q
   rw [w] at ho
   have e':s.heap.get? a=some (wo its n):=e
   rw [e'] at ho
   cases ho
   cases hd
 · obtain ⟨q1,q2,q3⟩:=I.pin p (by
    rcases A_.mp hp with h1 | h1
    · exact E7 _ h1
    · exact rl _ (E7 _ h1))
   exact ⟨q1,lo _ q2 (hp0 p hp),q3⟩
 · by_cases hb:b=a
   · subst hb
     rw [ai] at q
     cases q
     exact ⟨hz,its,n,rv,e⟩
   · rw [am hb] at q
     exact (I.hok b u q).stay (fun _ _ _ w=>w) (fun c w=>up c _ w) fun c ys w=>up c _ w
end
def Cz (t:TE):TE:=fun σ Hf Q=>∃ H a xs,Hf=upd H a (.lst xs)∧H a=none∧t σ H fun v H'=>H' a=none→Q v (upd H' a (.lst xs))
def CB (t:TT):TT:=fun σ Hf Q=>∃ H a xs,Hf=upd H a (.lst xs)∧H a=none∧t σ H fun v H'=>H' a=none→Q v (upd H' a (.lst xs))
def CF (t:TA):TA:=fun σ Hf Q=>∃ H a xs,Hf=upd H a (.lst xs)∧H a=none∧t σ H fun v H'=>H' a=none→Q v (upd H' a (.lst xs))
def CG (t:TI):TI:=fun σ Hf Q=>∃ H a xs,Hf=upd H a (.lst xs)∧H a=none∧t σ H fun v H'=>H' a=none→Q v (upd H' a (.lst xs))
section
variable {X:Cx} {e:Expr} {es:List Expr}
theorem wp (hex:X.ex=[]) {t:TE} (h:PE X e t):PE X e (Cz t):=by
 intro pins s σ Hf Q I ⟨H,a,xs,e1,ha,q⟩
 subst e1
 obtain ⟨its,n,rv,hz,h0,hp,I'⟩:=Inv.untrack I ha hex
 refine thn (h _ s σ H _ I' q) fun u s' ⟨v,H',I2,r,q2⟩=>?_
 obtain ⟨ha',I3⟩:=Inv.retrack I2 rv hz h0 hp
 exact ⟨v,_,I3,r,q2 ha'⟩
theorem wq (hex:X.ex=[]) {t:TT} (h:PT X e t):PT X e (CB t):=by
 intro pins s σ Hf Q I ⟨H,a,xs,e1,ha,q⟩
 subst e1
 obtain ⟨its,n,rv,hz,h0,hp,I'⟩:=Inv.untrack I ha hex
 refine thn (h _ s σ H _ I' q) fun u s' ⟨H',I2,q2⟩=>?_
 obtain ⟨ha',I3⟩:=Inv.retrack I2 rv hz h0 hp
 exact ⟨_,I3,q2 ha'⟩
theorem wt (hex:X.ex=[]) {t:TA} (h:PA X es t):PA X es (CF t):=by
 intro pos pins s σ Hf Q I ⟨H,a,xs,e1,ha,q⟩
 subst e1
 obtain ⟨its,n,rv,hz,h0,hp,I'⟩:=Inv.untrack I ha hex
 refine thn (h pos _ s σ H _ I' q) fun u s' ⟨v,H',I2,r,q2⟩=>?_
 obtain ⟨ha',I3⟩:=Inv.retrack I2 rv hz h0 hp
 exact ⟨v,_,I3,r,q2 ha'⟩
theorem pK (hex:X.ex=[]) {tg:Expr} {t:TI} (h:PI X tg e t):PI X tg e (CG t):=by
 intro pins s σ Hf R I ⟨H,a,xs,e1,ha,q⟩
 subst e1
 obtain ⟨its,n,rv,hz,h0,hp,I'⟩:=Inv.untrack I ha hex
 refine thn (h _ s σ H _ I' q) fun u s1 hs1=>thn hs1 fun itv s2 ⟨it,fp,tn,J,H',e2,I2,T,t0,fpo,q2⟩=>?_
 obtain ⟨ha',I3⟩:=Inv.retrack I2 rv hz h0 hp
 refine ⟨it,fp,tn,J,_,e2,I3,T,t0,fun b hb=>?_,q2 ha'⟩
 obtain ⟨g0,g1,g2,g3,g4,g5⟩:=fpo b hb
 have hba:b≠a:=fun w=>g5 (a,wo its n) (rl _ (rl _ (by simp))) w.symm
 refine ⟨by rw [am hba]; exact g0,g1,g2,g3,g4,fun p hp'=>g5 p ?_⟩
 rcases A_.mp hp' with w | w
 · exact E7 _ w
 · exact rl _ (E7 _ w)
end
mutual
def imm:Dv→Bool
 | .non=>true
 | .bl _=>true
 | .int _=>true
 | .str _=>true
 | .tup ds=>imms ds
 | .lst _=>false
 | .scr _=>false
 | .exn _=>false
def imms:List Dv→Bool
 | []=>true
 | d :: ds=>imm d && imms ds
end
section
variable {K:ck} {H H':Hp}
mutual
theorem Rep.tups (k:∀ b ys,H b=some (.tup ys)→H' b=some (.tup ys)):∀ (d:Dv) (v:V),imm d=true→Rep K H d v→Rep K H' d v
 | .non,_,_,h=>h
 | .bl _,_,_,h=>h
 | .int _,_,_,h=>h
 | .str _,_,_,h=>h
 | .tup ds,v,i,h=>by
  obtain ⟨a,xs,r,h,q⟩:=h.tupE
  exact ⟨a,xs,r,k _ _ h,Reps.tups k ds xs (by simpa [imm] using i) q⟩
 | .lst _,_,i,_=>by simp [imm] at i
 | .scr _,_,i,_=>by simp [imm] at i
 | .exn _,_,i,_=>by simp [imm] at i
theorem Reps.tups (k:∀ b ys,H b=some (.tup ys)→H' b=some (.tup ys)):∀ (ds:List Dv) (vs:List V),imms ds=true→Reps K H ds vs→Reps K H' ds vs
 | [],_,_,h=>h
 | d :: ds,vs,i,h=>by
  obtain ⟨v,us,r,h,q⟩:∃ v us,vs=v :: us∧Rep K H d v∧Reps K H ds us:=h
  have i':imm d=true∧imms ds=true:=by simpa [imms] using i
  exact ⟨v,us,r,Rep.tups k d v i'.1 h,Reps.tups k ds us i'.2 q⟩
end
end
inductive Fo where
 | nx (ρ:Ev) (ds:List Dv)
 | rt (d:Dv)
abbrev dC:=Ev→List Dv→Option Fo
def OutW (X:Cx) (i:Nat) (a:Addr) (H:Hp) (o:Option Fo) (D:oB):Prop:=match o with
 | none=>False
 | some (.rt d)=>∀ v H',Same H H'→Rep X.K H' d v→D.rt v H'
 | some (.nx ρ ds)=>∀ σ H' xs,Same H H'→H' a=none→σ[i]?=some (some (.ref a))→Envs X.K H' σ ρ→Reps X.K H' ds xs→D.nx σ (upd H' a (.lst xs))
theorem OutW.mono {X:Cx} {i:Nat} {a:Addr} {H H':Hp} {D:oB} (e:Same H H'):∀ {o:Option Fo},OutW X i a H o D→OutW X i a H' o D
 | none,h=>h
 | some (.rt _),h=>fun v H1 e1 r=>h v H1 (e.trans e1) r
 | some (.nx _ _),h=>fun σ H1 xs e1=>h σ H1 xs (e.trans e1)
def tO (X:Cx) (i:Nat) (f:dC):TS:=fun D σ Hf=>∃ H a xs ρ ds,Hf=upd H a (.lst xs)∧H a=none∧σ[i]?=some (some (.ref a))∧Envs X.K H σ ρ∧Reps X.K H ds xs∧OutW X i a H (f ρ ds) D
structure FO1 (X:Cx) (i:Nat) (st:Stmt) (f:dC):Prop where
 h:PS X st (tO X i f)
structure FOs (X:Cx) (i:Nat) (st:List Stmt) (f:dC):Prop where
 h:PSs X st (tO X i f)
def pL {α:Type} (o:Option (Rs α)) (k:α→Option Fo):Option Fo:=match o with
 | some (.ok a)=>k a
 | _=>none
def rQ:dC:=fun ρ ds=>some (.nx ρ ds)
def cR (f g:dC):dC:=fun ρ ds=>match f ρ ds with
 | some (.nx ρ' ds')=>g ρ' ds'
 | o=>o
def c7 (j:Nat) (f:FnE):dC:=fun ρ ds=>pL (f ρ) fun d=>some (.nx (ρ.set j (some d)) ds)
def oIf (c:FnB) (f g:dC):dC:=fun ρ ds=>pL (c ρ) fun k=>if k then f ρ ds else g ρ ds
def sP (i:Nat) (c:FnB) (f g:dC):dC:=fun ρ ds=>pL (c (ρ.set i (some (.lst ds)))) fun k=>if k then f ρ ds else g ρ ds
def uQ (i:Nat) (f:FnE):dC:=fun ρ ds=>pL (f (ρ.set i (some (.lst ds)))) fun d=>some (.rt d)
def oF (f:FnE):dC:=fun ρ ds=>if ds.length < 100000 then pL (f ρ) fun d=>some (.nx ρ (ds ++ [d])) else none
section
variable {X:Cx} {i:Nat} {st:Stmt} {sts:List Stmt} {f g:dC} {fe:FnE} {gb:FnB} {e c:Expr} {pos:Pos}
theorem lj {H Hf:Hp} {a:Addr} {xs:List V} (ha:H a=none) (e:Same (upd H a (.lst xs)) Hf):∃ H',Hf=upd H' a (.lst xs)∧H' a=none∧Same H H':=by
 refine ⟨fun b=>if b=a then none else Hf b,?_,by simp,fun b u q=>?_⟩
 · funext b
   by_cases hb:b=a
   · subst hb
     rw [ai]
     exact e b _ ai
   · rw [am hb]
     simp [hb]
 · have hb:b≠a:=ak q ha
   simp only [hb,if_false]
   exact e b u (by rw [am hb]; exact q)
theorem cx {H:Hp} {a:Addr} {xs:List V} (ha:H a=none):Same H (upd H a (.lst xs)):=aq ha _
theorem dX {H:Hp} {a:Addr} {xs:List V} {σ:L2.St} {ρ:Ev} {ds:List Dv} (ha:H a=none) (hi:σ[i]?=some (some (.ref a))) (E:Envs X.K H σ ρ) (r:Reps X.K H ds xs):Envs X.K (upd H a (.lst xs)) σ (ρ.set i (some (.lst ds))):=by
 have E':=E.mono (cx (xs:=xs) ha)
 refine ⟨by rw [EV]; exact E'.len,fun j d hj=>?_⟩
 by_cases hij:i=j
 · subst hij
   by_cases hl:i < ρ.length
   · rw [ED hl] at hj
     cases hj
     exact ⟨.ref a,hi,a,xs,rfl,ai,Reps.mono (cx ha) _ _ r⟩
   · rw [EI (by rw [EV]; omega)] at hj
     cases hj
 · rw [v_ hij] at hj
   exact E'.at' j d hj
theorem wu:FOs X i [] rQ:=⟨fun pins s σ Hf D I ⟨H,a,xs,ρ,ds,e1,ha,hi,E,r,o⟩=>by
 subst e1
 exact oN pins s σ _ D I (o σ H xs (.refl H) ha hi E r)⟩
theorem sQ (h1:FO1 X i st f) (h2:FOs X i sts g):FOs X i (st :: sts) (cR f g):=⟨fun pins s σ Hf D I ⟨H,a,xs,ρ,ds,e1,ha,hi,E,r,o⟩=>by
 refine cG h1.h h2.h pins s σ Hf D I ⟨H,a,xs,ρ,ds,e1,ha,hi,E,r,?_⟩
 unfold cR at o
 match hf:f ρ ds with
 | none=>rw [hf] at o; exact o.elim
 | some (.rt d)=>rw [hf] at o; exact o
 | some (.nx ρ' ds')=>rw [hf] at o; exact fun σ' H' xs' e' ha' hi' E' r'=>⟨H',a,xs',ρ',ds',rfl,ha',hi',E',r',OutW.mono e' o⟩⟩
theorem wv (h1:FO1 X i st f):FOs X i [st] f:=⟨kZ h1.h⟩
theorem zx (hex:X.ex=[]) (j:Nat) (hij:i≠j) {x:Str} {pos':Pos} (hN:X.N.Nodup) (hi:X.N[j]?=some x) (hx:Loc X.env.scope x) (he:FE X e fe) (hs:Fk e (some (.Name x pos')) pos.line X.env=pure false:=by kernel_rfl) (hf:X.fn x=true∨X.env.scope.names.lookup x=some .local:=by first | exact .inl rfl | exact .inr rfl | assumption) :
 FO1 X i (.Assign [.Name x pos'] e pos) (c7 j fe):=⟨fun pins s σ Hf D I ⟨H,a,xs,ρ,ds,e1,ha,hia,E,r,o⟩=>by
 refine hU hN hi hx (wp hex he.h) hs hf pins s σ Hf D I ⟨H,a,xs,e1,ha,ρ,E,?_⟩
 unfold c7 at o
 match hfe:fe ρ with
 | none=>rw [hfe] at o; exact o.elim
 | some (.exc _)=>rw [hfe] at o; exact o.elim
 | some (.ok d) =>
  rw [hfe] at o
  exact fun v H' e' rd ha'=>o _ H' xs e' ha' (by rw [v_ (GE hij)]; exact hia) ((E.mono e').set rd) (Reps.mono e' _ _ r)⟩
theorem CH (hex:X.ex=[]) {as bs:List Stmt} (hc:FT X c gb) (ha:FOs X i as f) (hb:FOs X i bs g):FO1 X i (.If c as bs pos) (oIf gb f g):=⟨fun pins s σ Hf D I ⟨H,a,xs,ρ,ds,e1,ha',hia,E,r,o⟩=>by
 refine vx (wq hex hc.h) ha.h hb.h pins s σ Hf D I ⟨H,a,xs,e1,ha',ρ,E,?_⟩
 unfold oIf at o
 match hg:gb ρ with
 | none=>rw [hg] at o; exact o.elim
 | some (.exc _)=>rw [hg] at o; exact o.elim
 | some (.ok true)=>rw [hg] at o; exact fun H' e' h'=>uF ⟨H',a,xs,ρ,ds,rfl,h',hia,E.mono e',Reps.mono e' _ _ r,OutW.mono e' o⟩
 | some (.ok false)=>rw [hg] at o; exact fun H' e' h'=>uE ⟨H',a,xs,ρ,ds,rfl,h',hia,E.mono e',Reps.mono e' _ _ r,OutW.mono e' o⟩⟩
theorem zy {as bs:List Stmt} (hc:FT X c gb) (ha:FOs X i as f) (hb:FOs X i bs g):FO1 X i (.If c as bs pos) (sP i gb f g):=⟨fun pins s σ Hf D I ⟨H,a,xs,ρ,ds,e1,ha',hia,E,r,o⟩=>by
 subst e1
 refine vx hc.h ha.h hb.h pins s σ _ D I ⟨_,dX ha' hia E r,?_⟩
 unfold sP at o
 match hg:gb (ρ.set i (some (.lst ds))) with
 | none=>rw [hg] at o; exact o.elim
 | some (.exc _)=>rw [hg] at o; exact o.elim
 | some (.ok true) =>
  rw [hg] at o
  intro H2 e2
  obtain ⟨H',q1,q2,q3⟩:=lj ha' e2
  exact uF ⟨H',a,xs,ρ,ds,q1,q2,hia,E.mono q3,Reps.mono q3 _ _ r,OutW.mono q3 o⟩
 | some (.ok false) =>
  rw [hg] at o
  intro H2 e2
  obtain ⟨H',q1,q2,q3⟩:=lj ha' e2
  exact uE ⟨H',a,xs,ρ,ds,q1,q2,hia,E.mono q3,Reps.mono q3 _ _ r,OutW.mono q3 o⟩⟩
theorem zA (he:FE X e fe):FO1 X i (.Return (some e) pos) (uQ i fe):=⟨fun pins s σ Hf D I ⟨H,a,xs,ρ,ds,e1,ha',hia,E,r,o⟩=>by
 subst e1
 refine uz he.h pins s σ _ D I ⟨_,dX ha' hia E r,?_⟩
 unfold uQ at o
 match hg:fe (ρ.set i (some (.lst ds))) with
 | none=>rw [hg] at o; exact o.elim
 | some (.exc _)=>rw [hg] at o; exact o.elim
 | some (.ok d)=>rw [hg] at o; exact fun v H2 e2 rd=>o v H2 ((cx ha').trans e2) rd⟩
theorem zB (hex:X.ex=[]) {x:Str} {apos cpos:Pos} (hx:PE X (.Name x apos) (uy i)) (he:FE X e fe)
 (hbase:GU (.Name x apos) "append" X.env (eval (.Name x apos) X.env)=eval (.Name x apos) X.env:=by kernel_rfl)
 (hfew:((EY cpos (f_ [e] X.env)).all (fun x=>!x.1) && (G1 cpos (F4 [] X.env)).all (fun x=>x.1.isSome)
   && decide ([e].length + ([]:List GY).length + (if ([]:List GY).isEmpty then 0 else 1) < 30))=true:=by kernel_rfl)
 {ap:Pos} (hline:(ap.endLine == cpos.line)=true:=by kernel_rfl) (hs:f_ [e] X.env=(false,eval e X.env) :: f_ [] X.env:=by kernel_rfl) (hplain:(EY cpos (f_ [] X.env)).any (·.1)=false:=by kernel_rfl)
 (hsw:Fk (.Call (.Attribute (.Name x apos) "append" ap) [e] [] cpos) none pos.line X.env=pure false:=by kernel_rfl) :
 FO1 X i (.Expr (.Call (.Attribute (.Name x apos) "append" ap) [e] [] cpos) pos) (oF fe):=⟨fun pins s σ Hf D I ⟨H,a,xs,ρ,ds,e1,ha',hia,E,r,o⟩=>by
 refine oO (yA PySem.F.plainAttrs_list IT PySem.F.type_list_append pj hx (wt hex (pq he uI hs).h) hbase hfew hline hs hplain) hsw pins s σ Hf D I ?_
 unfold oF at o
 split at o
 · rename_i hl
   match hfe:fe ρ with
   | none=>rw [hfe] at o; exact o.elim
   | some (.exc _)=>rw [hfe] at o; exact o.elim
   | some (.ok d) =>
    rw [hfe] at o
    refine ⟨.ref a,hia,.inl ⟨rfl,xs,SqL.of (by rw [e1]; exact ai)⟩,H,a,xs,e1,ha',ρ,E,?_⟩
    show OutA X H (aa fe ag ρ) _
    rw [ao hfe aK]
    intro vs H' e' rs ha2
    obtain ⟨v,rfl,rv⟩:=dU rs
    have hz:xs.length < sizeLine:=by
     have:=r.length
     have h2:=bn (n:=xs.length + 1) (by omega)
     omega
    refine ⟨a,xs,v,rfl,rfl,ai,hz,?_⟩
    rw [vp]
    exact o σ H' (xs ++ [v]) e' ha2 hia (E.mono e') ((Reps.mono e' _ _ r).append ⟨v,[],rfl,rv,rfl⟩)
 · exact o.elim⟩
end
def uR (i:Nat) (g:FnA) (f:dC):FnS:=fun ρ=>dk (g ρ) fun ds=>if ds.length≤100000 then (match f (ρ.set i none) ds with
 | some (.nx ρ' ds')=>some (.nx (ρ'.set i (some (.lst ds'))))
 | some (.rt d)=>some (.rt d)
 | none=>none) else none
section
variable {X:Cx} {i:Nat} {sts:List Stmt} {f:dC} {g:FnA} {es:List Expr} {pos lp:Pos}
theorem ww {x:Str} {pos':Pos} (hN:X.N.Nodup) (hi:X.N[i]?=some x) (hx:Loc X.env.scope x) (hg:FA X es g) (hr:FOs X i sts f) (hs:Fk (.List es lp) (some (.Name x pos')) pos.line X.env=pure false:=by kernel_rfl)
 (hf:X.fn x=true∨X.env.scope.names.lookup x=some .local:=by first | exact .inl rfl | exact .inr rfl | assumption):FSs X (.Assign [.Name x pos'] (.List es lp) pos :: sts) (uR i g f):=⟨fun pins s σ H D I ⟨ρ,E,o⟩=>by
 refine cG (hU (i:=i) hN hi hx (uB hg.h) hs hf) hr.h pins s σ H D I ⟨ρ,E,?_⟩
 unfold uR at o
 match hgr:g ρ with
 | none=>rw [hgr] at o; exact o.elim
 | some (.exc _)=>rw [hgr] at o; exact o
 | some (.ok ds) =>
  rw [hgr] at o
  intro vs H1 e1 rs
  have o2:OutS X H (if ds.length≤100000 then (match f (ρ.set i none) ds with
   | some (.nx ρ' ds')=>some (.nx (ρ'.set i (some (.lst ds'))))
   | some (.rt d)=>some (.rt d)
   | none=>none) else none) D:=o
  by_cases hl:ds.length≤100000
  · rw [if_pos hl] at o2
    refine ⟨by rw [rs.length]; exact bn hl,fun p hp=>?_⟩
    have hil:i < σ.length:=by rw [I.len]; exact (B_.mp hi).1
    refine ⟨H1,p,vs,ρ.set i none,ds,rfl,hp,ED hil,?_,rs,?_⟩
    · have E1:=(E.mono e1).fgt1 i
      refine ⟨by rw [EV]; exact E1.len,fun j d hj=>?_⟩
      by_cases hij:i=j
      · subst hij
        by_cases hl2:i < ρ.length
        · rw [ED hl2] at hj; cases hj
        · rw [EI (by rw [EV]; omega)] at hj; cases hj
      · obtain ⟨v,q1,q2⟩:=E1.at' j d hj
        exact ⟨v,by rw [v_ hij]; exact q1,q2⟩
    · match hfr:f (ρ.set i none) ds with
      | none=>rw [hfr] at o2; exact o2.elim
      | some (.rt d)=>rw [hfr] at o2; exact fun v H' e' r'=>o2 v H' (e1.trans e') r'
      | some (.nx ρ' ds') =>
       rw [hfr] at o2
       exact fun σ' H' xs' e' ha' hi' E' r'=>o2 σ' _ ((e1.trans e').trans (cx ha')) (dX ha' hi' E' r')
  · rw [if_neg hl] at o2
    exact o2.elim⟩
end
def gc (j:Nat) (js:List Nat) (body:dC):List Dv→Ev→List Dv→Option Fo
 | [],ρ,xs=>some (.nx (fgt js ρ) xs)
 | d :: ds,ρ,xs=>match body ((fgt js ρ).set j (some d)) xs with
  | some (.nx ρ' xs')=>gc j js body ds ρ' xs'
  | o=>o
def pM (j:Nat) (js:List Nat) (src:FnA) (body:dC):dC:=fun ρ xs=>pL (src ρ) fun ds=>if imms ds=true then gc j js body ds ρ xs else none
theorem dZ:∀ {ds:List Dv} {n:Nat} {d:Dv},imms ds=true→ds[n]?=some d→imm d=true
 | [],_,_,_,h=>by simp at h
 | e :: ds,0,d,i,h=>by
  have i':imm e=true∧imms ds=true:=by simpa [imms] using i
  cases (show some e=some d from h)
  exact i'.1
 | e :: ds,n + 1,d,i,h=>by
  have i':imm e=true∧imms ds=true:=by simpa [imms] using i
  exact dZ i'.2 (show ds[n]?=some d from h)
theorem fG {K:ck} {H:Hp} {a:Addr} {xs:List V} {d:Dv} {v:V} (i:imm d=true) (r:Rep K (upd H a (.lst xs)) d v):Rep K H d v :=
 Rep.tups (fun b ys q=>by
  by_cases hb:b=a
  · rw [hb,ai] at q; cases q
  · rw [am hb] at q; exact q) d v i r
theorem zE {X:Cx} {i:Nat} {tg iter:Expr} {body:List Stmt} {pos:Pos} {src:FnA} {fb:dC} (hex:X.ex=[]) (j:Nat) (js:List Nat) (hij:i≠j) (hp:Ia (s_ X.prog X.w) X.A X.env X.xe) (hc:X.calm=true) (hi:FI X tg iter src) (hg:PG X tg (oP j)) (hb:FOs X i body fb)
 (hs:∀ x,EJ iter X.env x=pure x:=by intro _; kernel_rfl):FO1 X i (.For tg iter body [] pos) (pM j js src fb):=⟨fun pins s σ Hf D I ⟨H,a,xs,ρ,ds,e1,ha,hia,E,r,o⟩=>by
 refine mo hp hc (pK hex hi.h) hg hb.h hs pins s σ Hf D I ⟨H,a,xs,e1,ha,ρ,E,?_⟩
 unfold pM at o
 match hf:src ρ with
 | none=>rw [hf] at o; exact o.elim
 | some (.exc _)=>rw [hf] at o; exact o.elim
 | some (.ok us) =>
  rw [hf] at o
  have o0:OutW X i a H (if imms us=true then gc j js fb us ρ ds else none) D:=o
  by_cases him:imms us=true
  · rw [if_pos him] at o0
    intro J H1 e1 wk ha1
    have o1:=OutW.mono e1 o0
    refine ⟨fun n m σ' Hf'=>m=us.length - n∧n≤us.length∧∃ H' xs' ρ' ds',Hf'=upd H' a (.lst xs')∧H' a=none∧Same H1 H'∧σ'[i]?=some (some (.ref a))∧Envs X.K H' σ' ρ'∧Reps X.K H' ds' xs'∧OutW X i a H' (gc j js fb (us.drop n) ρ' ds') D,
     ⟨us.length,by simp,EK _,H1,xs,ρ,ds,rfl,ha1,.refl H1,hia,E.mono e1,Reps.mono e1 _ _ r,by simpa using o1⟩,?_⟩
    rintro n m σ' Hf' ⟨rfl,hn,H',xs',ρ',ds',rfl,ha',e2,hia',E',r',o'⟩
    have e2f:Same H1 (upd H' a (.lst xs')):=e2.trans (cx ha')
    by_cases hlt:n < us.length
    · refine .inr ⟨wk.go n _ e2f hlt,fun σ2 Hf2=>∃ H2 xs2 ρ2 ds2,Hf2=upd H2 a (.lst xs2)∧H2 a=none∧Same H1 H2∧σ2[i]?=some (some (.ref a))∧Envs X.K H2 σ2 ρ2∧Reps X.K H2 ds2 xs2∧OutW X i a H2 (gc j js fb (us.drop (n + 1)) ρ2 ds2) D,
       fun σ2 Hf2 q=>⟨us.length - (n + 1),by omega,rfl,hlt,q⟩,fun x H2 y=>?_⟩
      obtain ⟨rfl,d,hd,rd⟩:=wk.yld n _ x H2 e2f hlt y
      have rd':=fG (dZ him hd) rd
      rw [c4 hd] at o'
      show tO X i fb _ _ _
      refine ⟨H',a,xs',(fgt js ρ').set j (some d),ds',rfl,ha',by rw [v_ (GE hij)]; exact hia',(Envs.fgt js E').set rd',r',?_⟩
      unfold gc at o'
      match hb':fb ((fgt js ρ').set j (some d)) ds' with
      | none=>rw [hb'] at o'; exact o'
      | some (.rt r)=>rw [hb'] at o'; exact o'
      | some (.nx ρ2 ds2)=>rw [hb'] at o'; exact fun σ2 H3 xs3 e3 h3 hi3 E3 r3=>⟨H3,xs3,ρ2,ds2,rfl,h3,e2.trans e3,hi3,E3,r3,OutW.mono e3 o'⟩
    · have hn':n=us.length:=by omega
      subst hn'
      rw [HC] at o'
      exact .inl ⟨wk.stop _ e2f,o' σ' H' xs' (.refl H') ha' hia' (Envs.fgt js E') r'⟩
  · rw [if_neg him] at o0
    exact o0.elim⟩
end FD
namespace FD
open PySem PySem.Spec PyProof.Rows L2 PySem.W
def pN:Dv→Bool
 | .bl _=>true
 | .int _=>true
 | _=>false
theorem wx (K:ck) (d:Dv):G2 K (.type (tyD d)) (.type "int")=some (pN d):=by cases d <;> kernel_rfl
theorem zF:F9 (b_ "int")=some (.type "int"):=by kernel_rfl
section
variable {X:Cx} {p pos:Pos} {e:Expr} {es:List Expr} {ga:FnA}
end
def leX:Dv→Dv→Option (Rs Dv)
 | .int i,.int j=>some (.ok (.bl (decide (i≤j))))
 | .str x,.str y=>some (.ok (.bl (!decide (y.cps.toList < x.cps.toList))))
 | _,_=>none
def DF:R2:=fun x y H Q=>rI0 (fun i j=>.bl (decide (i≤j))) x y H Q∨∃ i j,x=.str i∧y=.str j∧Q (.bl (!decide (j.cps.toList < i.cps.toList))) H
section
variable {X:Cx}
theorem pO:OpR X (EF .LtE) (fun x y H Q=>∃ i j,x=.str i∧y=.str j∧Q (.bl (!decide (j.cps.toList < i.cps.toList))) H):=by
 intro pins s σ H x y v u Q I rx ry h
 obtain ⟨i,j,rfl,rfl,q⟩:=h
 obtain ⟨t,rfl⟩:=rx
 obtain ⟨t',rfl⟩:=ry
 exact PySem.P.le_str ⟨.bl _,H,I,rfl,q⟩
theorem CI:OpR X (EF .LtE) DF:=op_le.or pO
theorem CK:GOp X DF leX:=by
 intro dx dy x y H Q rx ry o
 cases dx <;> cases dy <;> try exact (show False from o).elim
 · rename_i i j
   exact .inl ⟨i,j,rx,ry,o _ H (.refl H) rfl⟩
 · rename_i i j
   exact .inr ⟨i,j,rx,ry,o _ H (.refl H) rfl⟩
end
structure XAllS (K:ck) (S:List Nat) (cls:Nat→Addr) (CJ:Addr):Prop where
 at_:∀ c∈S,nsIn K EA (xnm c)=some (some (.ref (cls c)))∧excIn K (cls c) bmV "ValueError.__new__"=true∧XI K (cls c)∧mroIn K (cls c) (.ref CJ)=some true∧mroIn K (cls c) (.ref (cls c))=some true∧kitOne K (.ref (cls c)) (.type "ValueError")=some true∧∀ d∈S,kitOne K (.ref (cls c)) (.ref (cls d))=some (c == d)
 exJ:excIn K CJ bmV "ValueError.__new__"=true
section
variable {K:ck} {S:List Nat} {cls:Nat→Addr} {CJ:Addr} (x:XAllS K S cls CJ)
include x
theorem XAllS.same {c:Nat} {C:Addr} (h:c∈S) (q:nsIn K EA (xnm c)=some (some (.ref C))):C=cls c:=by
 have z:=(x.at_ c h).1
 rw [q] at z
 cases z
 rfl
end
section
variable {X:Cx} {ex hx:Expr} {f g:FnE} {J:Str} {CJ:Addr} {np rp rp2 hpos pos:Pos}
end
end FD
namespace ST
open PySem PySem.SetTable
def stp (m i:Nat):Nat:=(i * 5 + 1) % (m + 1)
def it (m:Nat):Nat→Nat→Nat
 | 0,i=>i
 | k + 1,i=>it m k (stp m i)
def nO (m:Nat):Bool:=(g_ (m + 1)).all fun i=>(g_ (m + 1)).all fun j=>(g_ (m + 1)).any fun k=>it m k i == j
theorem Ej:nO 7=true:=by decide +kernel
theorem CL:nO 31=true:=by decide +kernel
theorem zG {m:Nat} (h:nO m=true) {i j:Nat} (hi:i≤m) (hj:j≤m):∃ k,k≤m∧it m k i=j:=by
 unfold nO at h
 have h1:=E6.mp h i (EH.mpr (by omega))
 have h2:=E6.mp h1 j (EH.mpr (by omega))
 obtain ⟨k,hk,e⟩:=Kk.mp h2
 exact ⟨k,by have:=EH.mp hk; omega,by simpa using e⟩
def lp (m:Nat):Nat→Nat×Nat→Nat×Nat
 | 0,x=>x
 | r + 1,x=>lp m r (leap m x.1 x.2)
theorem pP (m:Nat):∀ (a b:Nat) (x:Nat×Nat),lp m (a + b) x=lp m b (lp m a x)
 | 0,b,x=>by rw [Hc]; rfl
 | a + 1,b,x=>by
  rw [L6]
  show lp m (a + b) (leap m x.1 x.2)=lp m b (lp m a (leap m x.1 x.2))
  exact pP m a b _
theorem wy (m:Nat):∀ (r:Nat) (x:Nat×Nat),x.1≤m→(lp m r x).1≤m
 | 0,x,h=>h
 | r + 1,x,h=>wy m r _ (by
  show (x.1 * 5 + 1 + x.2 / 32) % (m + 1)≤m
  exact Gc (HV _ (Hd m)))
theorem zH (m:Nat):∀ (r:Nat) (x:Nat×Nat),(lp m r x).2=x.2 / 32 ^ r
 | 0,x=>by simp [lp]
 | r + 1,x=>by
  show (lp m r (leap m x.1 x.2)).2=_
  rw [zH m r]
  show x.2 / 32 / 32 ^ r=_
  rw [Nat.div_div_eq_div_mul,Nat.pow_succ,Nat.mul_comm]
theorem pQ (m:Nat):∀ (r:Nat) (i:Nat),(lp m r (i,0)).1=it m r i
 | 0,i=>rfl
 | r + 1,i=>by
  show (lp m r (leap m i 0)).1=it m r (stp m i)
  have e:leap m i 0=(stp m i,0):=by unfold leap stp; simp
  rw [e]
  exact pQ m r _
theorem pR {m:Nat} (c:nO m=true) {i pt j:Nat} (hi:i≤m) (hp:pt < 2 ^ 64) (hj:j≤m):∃ r,r≤13 + m∧(lp m r (i,pt)).1=j:=by
 have h0:(lp m 13 (i,pt)).2=0:=by
  rw [zH]
  exact Nat.div_eq_of_lt (by
   show pt < 32 ^ 13; have:(32:Nat) ^ 13=2 ^ 65:=by decide
   omega)
 obtain ⟨k,hk,e⟩:=zG c (wy m 13 (i,pt) hi) hj
 refine ⟨13 + k,by omega,?_⟩
 rw [pP]
 have e2:lp m 13 (i,pt)=((lp m 13 (i,pt)).1,0):=by rw [← h0]
 rw [e2,pQ]
 exact e
def advN (t:SetTable):Nat→Probe→Probe
 | 0,p=>p
 | n + 1,p=>advN t n (t.advance p)
theorem bH (t:SetTable):∀ (a b:Nat) (p:Probe),advN t (a + b) p=advN t b (advN t a p)
 | 0,b,p=>by rw [Hc]; rfl
 | a + 1,b,p=>by
  rw [L6]
  exact bH t a b _
structure Vp (t:SetTable) (p:Probe):Prop where
 i:p.i≤t.mask
 pt:p.perturb < 2 ^ 64
 more:p.more≤9
 dm:p.dummy=none
theorem gd (m i:Nat):IK m i - i≤9:=by unfold IK; split <;> omega
def ig (t:SetTable) (p:Probe):Probe:={ p with j:=(leap t.mask p.i p.perturb).1,more:=IK t.mask (leap t.mask p.i p.perturb).1 - (leap t.mask p.i p.perturb).1,i:=(leap t.mask p.i p.perturb).1,perturb:=(leap t.mask p.i p.perturb).2 }
theorem iX (t:SetTable) (p:Probe) (h:p.more=0):t.advance p=ig t p:=by
 unfold Mg ig
 rw [if_neg (by omega)]
theorem iY (t:SetTable) (p:Probe) (h:0 < p.more):t.advance p={ p with j:=p.j + 1,more:=p.more - 1 }:=by
 unfold Mg
 rw [if_pos h]
theorem gf (t:SetTable):∀ (k:Nat) (p:Probe),p.more=k→advN t (k + 1) p=ig t p
 | 0,p,h=>iX t p h
 | k + 1,p,h=>by
  show advN t (k + 1) (t.advance p)=_
  rw [iY t p (by omega),gf t k _ (by show p.more - 1=k; omega)]
  rfl
theorem pS (m i pt:Nat) (h:pt < 2 ^ 64):(leap m i pt).2 < 2 ^ 64:=LL (Nat.div_le_self _ _) h
theorem Vp.leap {t:SetTable} {p:Probe} (v:Vp t p):Vp t (ig t p):=⟨by
 show (p.i * 5 + 1 + p.perturb / 32) % (t.mask + 1)≤t.mask
 exact Gc (HV _ (Hd t.mask)),(show (Hj t.mask p.i p.perturb).2 < 2 ^ 64 from pS _ _ _ v.pt),(show IK t.mask (Hj t.mask p.i p.perturb).1 - (Hj t.mask p.i p.perturb).1≤9 from gd _ _),v.dm⟩
theorem Vp.adv {t:SetTable} {p:Probe} (v:Vp t p):Vp t (t.advance p):=by
 by_cases h:0 < p.more
 · rw [iY t p h]; exact ⟨v.i,v.pt,by show p.more - 1≤9; have:=v.more; omega,v.dm⟩
 · rw [iX t p (by omega)]; exact v.leap
theorem Vp.advN {t:SetTable}:∀ (n:Nat) {p:Probe},Vp t p→Vp t (advN t n p)
 | 0,p,v=>v
 | n + 1,p,v=>Vp.advN n v.adv
theorem mF (t:SetTable):∀ (r:Nat) (p:Probe),Vp t p→∃ n,n≤10 * r∧(advN t n p).i=(lp t.mask r (p.i,p.perturb)).1∧(r≠0→(advN t n p).j=(advN t n p).i)
 | 0,p,v=>⟨0,by omega,rfl,fun h=>absurd rfl h⟩
 | r + 1,p,v=>by
  obtain ⟨n,h1,h2,h3⟩:=mF t r (ig t p) v.leap
  refine ⟨p.more + 1 + n,by have:=v.more; omega,?_,fun _=>?_⟩
  · rw [bH,gf t p.more p rfl,h2]; rfl
  · rw [bH,gf t p.more p rfl]
    by_cases hr:r=0
    · subst hr
      have hn:n=0:=by omega
      subst hn
      rfl
    · exact h3 hr
structure Tb (t:SetTable) (n:Nat):Prop where
 size:t.place.size=n
 dm:t.dummies=#[]
 cyc:nO t.mask=true
 room:n≤t.mask
theorem pU (j:Nat):has #[] j=false:=by unfold has; simp
theorem dr {t:SetTable} {n:Nat} (T:Tb t n) (j:Nat):t.slot j=.empty∨∃ i,t.slot j=.live i∧t.place[i]?=some j:=by
 unfold MX
 dsimp only
 split
 · rename_i h
   exact .inr ⟨_,rfl,by simpa using h⟩
 · rw [T.dm,pU]
   exact .inl rfl
theorem pV:∀ (m:Nat) (l:List Nat),l.length≤m→∃ j,j≤m∧j ∉ l
 | 0,l,h=>⟨0,j_ _,by
  have:l=[]:=Gr.mp (by omega)
  simp [this]⟩
 | m + 1,l,h=>by
  by_cases hm:(m + 1)∈l
  · obtain ⟨j,hj,hn⟩:=pV m (l.erase (m + 1)) (by rw [List.length_erase_of_mem hm]; omega)
    refine ⟨j,by omega,fun hl=>hn ?_⟩
    exact (List.mem_erase_of_ne (by omega)).mpr hl
  · exact ⟨m + 1,j_ _,hm⟩
theorem sS {t:SetTable} {n:Nat} (T:Tb t n):∃ j,j≤t.mask∧t.slot j=.empty:=by
 obtain ⟨j,hj,hn⟩:=pV t.mask t.place.toList (by simp [T.size,T.room])
 refine ⟨j,hj,?_⟩
 rcases dr T j with h | ⟨i,h,e⟩
 · exact h
 · exact absurd (Fb.mpr (IH e)) hn
theorem CM {t:SetTable} {n:Nat} (T:Tb t n) {p:Probe} (v:Vp t p):∃ N,N < 10 * IR t.mask∧t.slot (advN t N p).j=.empty:=by
 obtain ⟨j,hj,he⟩:=sS T
 obtain ⟨r,hr,e⟩:=pR T.cyc (wy t.mask 1 (p.i,p.perturb) v.i) (by
  show (leap t.mask p.i p.perturb).2 < 2 ^ 64
  exact pS _ _ _ v.pt) hj (pt:=(lp t.mask 1 (p.i,p.perturb)).2)
 obtain ⟨N,h1,h2,h3⟩:=mF t (1 + r) p v
 refine ⟨N,by unfold IR; omega,?_⟩
 rw [h3 (by omega),h2,pP]
 rw [show lp t.mask 1 (p.i,p.perturb)=((lp t.mask 1 (p.i,p.perturb)).1,(lp t.mask 1 (p.i,p.perturb)).2) from rfl,e]
 exact he
theorem first {P:Nat→Prop} [DecidablePred P]:∀ (b:Nat),(∃ n,n < b∧P n)→∃ n,n < b∧P n∧∀ k,k < n→¬ P k
 | 0,⟨n,h,_⟩=>absurd h (Gs _)
 | b + 1,⟨n,h,hp⟩=>by
  by_cases q:∃ n,n < b∧P n
  · obtain ⟨n,h1,h2,h3⟩:=first b q
    exact ⟨n,by omega,h2,h3⟩
  · have hn:n=b:=by
     have:¬ n < b:=fun z=>q ⟨n,z,hp⟩
     omega
    subst hn
    exact ⟨n,by omega,hp,fun k hk z=>q ⟨k,hk,z⟩⟩
theorem zI {t:SetTable} {n:Nat} (T:Tb t n) {p:Probe} (v:Vp t p):∃ N,N < 10 * IR t.mask∧t.slot (advN t N p).j=.empty∧∀ k,k < N→t.slot (advN t k p).j≠.empty :=
 first (P:=fun n=>t.slot (advN t n p).j=.empty) _ (CM T v)
theorem uS {t:SetTable} {n:Nat} (T:Tb t n) (hashAt:Nat→Int) (h:Int):∀ (N fuel:Nat) (p:Probe),Vp t p→N < fuel→t.slot (advN t N p).j=.empty→(∀ k,k < N→t.slot (advN t k p).j≠.empty) →
 Hu t hashAt h fuel p=some (.empty (advN t N p).j none)∨∃ m i,m < N∧t.slot (advN t m p).j=.live i∧t.place[i]?=some (advN t m p).j∧hashAt i=h∧Hu t hashAt h fuel p=some (.candidate (advN t m p).j i (advN t (m + 1) p))
 | N,0,p,v,hf,_,_=>absurd hf (Gs _)
 | 0,fuel + 1,p,v,hf,he,_=>by
  refine .inl ?_
  unfold Hu
  rw [show t.slot p.j=.empty from he]
  show some (Met.empty p.j p.dummy)=_
  rw [v.dm]
  rfl
 | N + 1,fuel + 1,p,v,hf,he,hn=>by
  rcases dr T p.j with h0 | ⟨i,h1,h2⟩
  · exact absurd h0 (hn 0 (by omega))
  · by_cases hh:hashAt i=h
    · refine .inr ⟨0,i,by omega,h1,h2,hh,?_⟩
      unfold Hu
      rw [h1]
      dsimp only
      rw [if_pos (by simpa using hh)]
      rfl
    · have hg:Hu t hashAt h (fuel + 1) p=Hu t hashAt h fuel (t.advance p):=by
       conv=>lhs; unfold Hu
       rw [h1]
       dsimp only
       rw [if_neg (by simpa using hh)]
      rcases uS T hashAt h N fuel (t.advance p) v.adv (by omega) he (fun k hk=>hn (k + 1) (by omega)) with q | ⟨m,i',q1,q2,q3,q4,q5⟩
      · exact .inl (by rw [hg,q]; rfl)
      · exact .inr ⟨m + 1,i',by omega,q2,q3,q4,by rw [hg,q5]; rfl⟩
theorem ll {t:SetTable} (h:Int):Vp t (t.probeStart h):=⟨by
 show bits h % (t.mask + 1)≤t.mask
 exact Gc (HV _ (Hd t.mask)),by
 show bits h < 2 ^ 64
 unfold bits
 have h1:=GL h (show (2 ^ 64:Int)≠0 by decide)
 have h2:=Gh h (show (0:Int) < 2 ^ 64 by decide)
 omega,gd _ _,rfl⟩
theorem jY {m:Nat} {owner:Array (Option Nat)}:∀ (fuel i pt:Nat),i≤m→(∃ r,r < fuel∧(owner.getD (lp m r (i,pt)).1 (some 0)).isNone=true)→∃ j,F6 m owner fuel i pt=some j∧(owner.getD j (some 0)).isNone=true
 | 0,i,pt,_,⟨r,h,_⟩=>absurd h (Gs _)
 | fuel + 1,i,pt,hi,⟨r,h,e⟩=>by
  unfold F6
  split
  · rename_i k hk
    exact ⟨i + k,rfl,by simpa using KR hk⟩
  · rename_i hk
    cases r with
    | zero =>
     have hm:0∈g_ (IK m i + 1 - i):=EH.mpr (by unfold IK; split <;> omega)
     have:=HW.mp hk 0 hm
     exact absurd (show (owner.getD (i + 0) (some 0)).isNone=true from e) this
    | succ r =>
     exact jY fuel _ _ (by
      show (i * 5 + 1 + pt / 32) % (m + 1)≤m
      exact Gc (HV _ (Hd m))) ⟨r,by omega,e⟩
theorem uT:∀ (l:List (Option Nat)) (j k:Nat),l[j]?=some none→((l.set j (some k)).filterMap id).Perm (k :: l.filterMap id)
 | [],j,k,h=>by simp at h
 | x :: l,0,k,h=>by
  have:x=none:=by simpa using h
  subst this
  simp
 | x :: l,j + 1,k,h=>by
  have ih:=uT l j k (by simpa using h)
  cases x with
  | none=>simpa using ih
  | some y =>
   show List.Perm (y :: (l.set j (some k)).filterMap id) (k :: y :: l.filterMap id)
   exact (ih.cons y).trans (MU ..)
theorem pW:∀ (l:List (Option Nat)),(l.filterMap id).length < l.length→∃ j,j < l.length∧l[j]?=some none
 | [],h=>by simp at h
 | none :: l,h=>⟨0,by simp,rfl⟩
 | some y :: l,h=>by
  obtain ⟨j,h1,h2⟩:=pW l (by simpa using h)
  exact ⟨j + 1,by simpa using h1,by simpa using h2⟩
def jZ (m:Nat) (acc:Option (Array (Option Nat)×Nat)) (h:Int):Option (Array (Option Nat)×Nat):=do
 let (owner,k) ← acc
 let j ← F6 m owner (IR m) (bits h % (m + 1)) (bits h)
 pure (owner.setIfInBounds j (some k),k + 1)
theorem wz (h:Int):bits h < 2 ^ 64:=by
 unfold bits
 have h1:=GL h (show (2 ^ 64:Int)≠0 by decide)
 have h2:=Gh h (show (0:Int) < 2 ^ 64 by decide)
 omega
theorem getD_none {owner:Array (Option Nat)} {j:Nat} (h:(owner.getD j (some 0)).isNone=true):j < owner.size∧owner.toList[j]?=some none:=by
 rw [Fd] at h
 cases q:owner[j]? with
 | none=>rw [q] at h; simp at h
 | some x =>
  rw [q] at h
  have hx:x=none:=by simpa using h
  subst hx
  refine ⟨(Fp.mp q).1,by rw [FZ]; exact q⟩
theorem pX {m:Nat} (c:nO m=true):∀ (hs:List Int) (owner:Array (Option Nat)) (k:Nat),owner.size=m + 1→(owner.toList.filterMap id).Perm (g_ k)→k + hs.length≤m →
 ∃ o2,hs.foldl (jZ m) (some (owner,k))=some (o2,k + hs.length)∧o2.size=m + 1∧(o2.toList.filterMap id).Perm (g_ (k + hs.length))
 | [],owner,k,h1,h2,h3=>⟨owner,rfl,h1,h2⟩
 | h :: hs,owner,k,h1,h2,h3=>by
  have hk:k + (hs.length + 1)≤m:=by simpa using h3
  obtain ⟨j0,a1,a2⟩:=pW owner.toList (by rw [h2.length_eq,Ix]; simp only [Fg,h1]; omega)
  have hj0:j0≤m:=by simp only [Fg,h1] at a1; omega
  obtain ⟨r,b1,b2⟩:=pR c (i:=bits h % (m + 1)) (pt:=bits h) (Gc (HV _ (Hd m))) (wz h) hj0
  obtain ⟨j,f1,f2⟩:=jY (m:=m) (owner:=owner) (IR m) (bits h % (m + 1)) (bits h) (Gc (HV _ (Hd m))) ⟨r,by unfold IR; omega,by
   rw [b2,Fd]
   rw [FZ] at a2
   rw [a2]; rfl⟩
  obtain ⟨g1,g2⟩:=getD_none f2
  have e:jZ m (some (owner,k)) h=some (owner.setIfInBounds j (some k),k + 1):=by
   show (F6 m owner (IR m) (bits h % (m + 1)) (bits h)).bind (fun j=>some (owner.setIfInBounds j (some k),k + 1))=_
   rw [f1]; rfl
  rw [HR,e]
  obtain ⟨o2,c1,c2,c3⟩:=pX c hs (owner.setIfInBounds j (some k)) (k + 1) (by rw [J0]; exact h1) (by
   rw [Array.toList_setIfInBounds]
   refine (uT _ _ _ g2).trans ((h2.cons k).trans ?_)
   rw [Mz]
   exact (List.perm_append_singleton k (g_ k)).symm) (by omega)
  refine ⟨o2,?_,c2,?_⟩
  · rw [c1]; simp only [EG]; congr 2; omega
  · simp only [EG]; rw [show k + (hs.length + 1)=k + 1 + hs.length by omega]; exact c3
theorem gg {m:Nat} (c:nO m=true) (hs:Array Int) (hl:hs.size≤m):∃ o2,MO m hs=some o2∧o2.size=m + 1∧(o2.toList.filterMap id).Perm (g_ hs.size):=by
 obtain ⟨o2,c1,c2,c3⟩:=pX c hs.toList (GM (m + 1) none) 0 (by simp) (by simp [List.filterMap_replicate]) (by simpa using hl)
 refine ⟨o2,?_,c2,by simpa using c3⟩
 unfold MO
 rw [← LP]
 have e:(List.foldl (fun acc h=>do
  let (owner,k) ← acc
  let j ← F6 m owner (IR m) (bits h % (m + 1)) (bits h)
  pure (owner.setIfInBounds j (some k),k + 1)) (some (GM (m + 1) none,0)) hs.toList:Option (Array (Option Nat)×Nat))=hs.toList.foldl (jZ m) (some (GM (m + 1) none,0)):=rfl
 rw [e,c1]
 rfl
theorem mG:∀ (l:List (Option Nat)) (base:Nat),((g_ l.length).filterMap fun j=>(l.getD j none).map (fun x=>(base + j,x))).map (·.2)=l.filterMap id
 | [],base=>rfl
 | x :: l,base=>by
  rw [EG,KG,GZ,JB]
  have ih:=mG l (base + 1)
  have e:(g_ l.length).filterMap ((fun j=>((x :: l).getD j none).map (fun x=>(base + j,x))) ∘ Nat.succ)=(g_ l.length).filterMap fun j=>(l.getD j none).map (fun x=>(base + 1 + j,x)):=by
   congr 1
   funext j
   show ((x :: l).getD (j + 1) none).map _=_
   simp only [List.getD_cons_succ]
   rw [show base + (j + 1)=base + 1 + j by omega]
  rw [e]
  cases x with
  | none=>simpa using ih
  | some y =>
   simp only [List.getD_cons_zero,Ge,t_]
   rw [ih]
   rfl
theorem wA {m finger moves:Nat} {led plain:Bool} (c:nO m=true) (hs:Array Int) (hl:hs.size≤m):∃ t order,laid m finger moves led plain hs=some (t,order)∧t.mask=m∧t.moves=moves∧t.led=led∧t.plain=plain∧Tb t hs.size∧order.toList.Perm (g_ hs.size):=by
 obtain ⟨o2,c1,c2,c3⟩:=gg c hs hl
 have e:=mG o2.toList 0
 have hlen:((g_ (m + 1)).filterMap fun j=>(o2.getD j none).map (j,·))=((g_ o2.toList.length).filterMap fun j=>(o2.toList.getD j none).map (fun x=>(0 + j,x))):=by
  rw [Fg,c2]
  congr 1
  funext j
  rw [Hc,Fd,List.getD_eq_getElem?_getD,FZ]
 refine ⟨_,_,by unfold laid; rw [c1]; rfl,rfl,rfl,rfl,rfl,⟨?_,rfl,c,hl⟩,?_⟩
 · simp only [x_,Ey]
   rw [hlen]
   have:=congrArg Mx e
   rw [Ey] at this
   rw [this,c3.length_eq,Ix]
 · rw [HG,hlen,e]
   exact c3
theorem d5 {α:Type} (xs:Array α) (p:Nat) (x:α) (h:p≤xs.size):(insertAt xs p x).size=xs.size + 1:=by
 unfold insertAt
 simp only [Array.size_append,Array.size_push,Array.size_extract]
 omega
theorem iZ (xs:Array Nat) (j:Nat):below xs j≤xs.size:=by
 unfold below
 have:∀ (fuel lo hi:Nat),lo≤hi→hi≤xs.size→J7 xs j fuel lo hi≤xs.size:=by
  intro fuel
  induction fuel with
  | zero=>intro lo hi h1 h2; unfold J7; omega
  | succ fuel ih =>
   intro lo hi h1 h2
   unfold J7
   split
   · rename_i hlt
     dsimp only
     split
     · exact ih _ _ (by omega) h2
     · exact ih _ _ (by omega) (by omega)
   · omega
 exact this _ _ _ (EK _) (j_ _)
theorem zJ {t:SetTable} {n:Nat} (T:Tb t n) (h:n + 1≤t.mask) (j:Nat):Tb (t.put j).1 (n + 1)∧(t.put j).2≤n∧(t.put j).1.mask=t.mask∧(t.put j).1.led=t.led∧(t.put j).1.moves=t.moves:=by
 unfold SetTable.put
 refine ⟨⟨?_,?_,T.cyc,h⟩,?_,rfl,rfl,rfl⟩
 · show (insertAt t.place (below t.place j) j).size=n + 1
   rw [d5 _ _ _ (iZ _ _),T.size]
 · show (if has t.dummies j then eraseAt t.dummies (below t.dummies j) else t.dummies)=#[]
   rw [T.dm,pU]
   rfl
 · show below t.place j≤n
   rw [← T.size]
   exact iZ _ _
section
variable {prog:Program} {w:w_} {A:u_} {E:Value→c_→Prop} {s:c_}
abbrev TK (prog:Program) (w:w_) (h:Heap) (k:List Str) (a:Addr):Prop:=IsTupleKey (strKind prog w) h k a
abbrev hsh (prog:Program) (w:w_) (k:List Str):Int:=tupleKeyHash (strKind prog w) k
theorem j4 {k:List Str} {vs:List Value} (h:ItemsAre (strKind prog w) k vs):∀ v∈vs,∃ x t,v=.str x t:=by
 induction h with
 | nil=>intro v hv; simp at hv
 | @cons k' v' ks vs h1 _ ih =>
  intro v hv
  rcases pi.mp hv with rfl | hv
  · obtain ⟨t,rfl⟩:=Lp h1
    exact ⟨_,_,rfl⟩
  · exact ih v hv
theorem pY {k:List Str} {a:Addr} {Q:Bool→c_→Prop} (hk:TK prog w s.heap k a) (h:Q false s):l_ (s_ prog w) A (ofAClassStatement 8 (.ref a)) Q E s:=by
 have hT:=hk.typeIs
 obtain ⟨o,items,n,ho,_,hd,hi⟩:=hk
 unfold ofAClassStatement
 refine a_ (Ih hT ?_)
 show l_ _ _ ((if ("tuple" == "tuple")=true then pure true else isSubtype (.type "tuple") (.type "tuple")) >>= _) _ _ s
 rw [if_pos (by decide)]
 refine a_ (d_ ?_)
 simp only [Hl,i_,if_false]
 refine a_ (Jj ho hd ?_)
 refine a_ ?_
 show l_ _ _ (M4 items _ _) _ _ s
 rw [← HX]
 refine Hy _ (fun rest r s'=>r.1=none∧s'=s∧∀ v∈rest,∃ x t,v=HZ x t) _ ?_ ?_ _ _ ⟨rfl,rfl,j4 hi⟩
 · rintro v rest r s' ⟨hr,rfl,hall⟩
   obtain ⟨x,t,rfl⟩:=hall v h_
   refine a_ (d_ ?_)
   simp only [i_,if_false]
   exact d_ ⟨rfl,rfl,fun u hu'=>hall u (k_ _ hu')⟩
 · rintro ⟨r1,r2⟩ s' ⟨hr,rfl,_⟩
   simp only at hr
   subst hr
   exact d_ h
theorem uU {k:List Str} {b:Addr} (hk:TK prog w s.heap k b) {l:List Value} (hl:∀ v∈l,∃ k' a,v=.ref a∧TK prog w s.heap k' a) {Q:Bool→c_→Prop} (h:Q false s):l_ (s_ prog w) A (searchCouldBeSeen (.ref b) l) Q E s:=by
 unfold searchCouldBeSeen
 refine a_ ?_
 refine Hy _ (fun rest r s'=>r.1=none∧s'=s∧∀ v∈rest,∃ k' a,v=r_ a∧TK prog w s.heap k' a) _ ?_ ?_ _ _ ⟨rfl,rfl,hl⟩
 · rintro v rest r s' ⟨hr,rfl,hall⟩
   obtain ⟨k',a,rfl,ha⟩:=hall v h_
   have hrest:∀ v∈rest,∃ k' a,v=r_ a∧TK prog w s'.heap k' a:=fun u hu'=>hall u (k_ _ hu')
   dsimp only
   split
   · exact d_ ⟨rfl,rfl,hrest⟩
   · refine a_ (KS hk ?_)
     simp only [Hl,i_,if_false]
     refine a_ (KS ha ?_)
     simp only [Hl,i_,if_false]
     refine a_ (pY hk ?_)
     simp only [i_,if_false]
     refine a_ (pY ha ?_)
     simp only [i_,if_false]
     exact d_ ⟨rfl,rfl,hrest⟩
 · rintro ⟨r1,r2⟩ s' ⟨hr,rfl,_⟩
   simp only at hr
   subst hr
   exact d_ h
theorem lm {k:List Str} {a:Addr} {Q:Bool→c_→Prop} (hk:TK prog w s.heap k a) (h:∀ b,Q b s):l_ (s_ prog w) A (hashByValue 8 (.ref a)) Q E s:=by
 have hT:=hk.typeIs
 obtain ⟨o,items,n,ho,_,hd,hi⟩:=hk
 unfold hashByValue
 refine a_ (wpAny_specialOf hT F.slot_tuple_hash.lookup ?_)
 dsimp only
 refine a_ (Jj ho hd ?_)
 refine a_ ?_
 show l_ _ _ (M4 items _ _) _ _ s
 rw [← HX]
 refine Hy _ (fun rest r s'=>r.1=none∧s'=s∧∀ v∈rest,∃ x t,v=HZ x t) _ ?_ ?_ _ _ ⟨rfl,rfl,j4 hi⟩
 · rintro v rest r s' ⟨hr,rfl,hall⟩
   obtain ⟨x,t,rfl⟩:=hall v h_
   refine a_ (d_ ?_)
   simp only [Hx,if_true]
   refine d_ ?_
   exact d_ (h _)
 · rintro ⟨r1,r2⟩ s' ⟨hr,rfl,_⟩
   simp only at hr
   subst hr
   exact d_ (h _)
def Ent (prog:Program) (w:w_) (h:Heap) (ks:List (List Str)) (es:List (Int×Value)):Prop:=∀ e∈es,∃ k a,k∈ks∧e.2=.ref a∧TK prog w h k a
theorem eL {t:SetTable} {n:Nat} (T:Tb t n):t.fits n=true:=by
 unfold SetTable.fits MY
 rw [T.size,T.dm]
 simp [T.room]
end
section
variable {prog:Program} {w:w_} {A:u_} {E:Value→c_→Prop} {s:c_}
def SetT (prog:Program) (w:w_) (h:Heap) (S:Addr) (ks:List (List Str)) (n:Nat):Prop :=
 ∃ o es ep t,h.get? S=some o∧o.ExactSet∧o.data=.set es ep t∧es.size=n∧Tb t n∧((t.mask=7∧n≤4)∨(t.mask=31∧n≤18))∧Ent prog w h ks es.toList
theorem TK.keeps {h h':Heap} {k:List Str} {a S:Addr} {o:Obj} {es ep t} (x:TK prog w h k a) (ho:h.get? S=some o) (hd:o.data=.set es ep t) (hs:FJ S h h'):TK prog w h' k a:=by
 obtain ⟨o',items,n,ho',hc,hd',hi⟩:=x
 have hne:a≠S:=by
  rintro rfl
  obtain rfl:o'=o:=EU (ho'.symm.trans ho)
  rw [hd] at hd'; exact nomatch hd'
 exact ⟨o',items,n,(hs.2 a hne).trans ho',hc,hd',hi⟩
theorem Ent.keeps {h h':Heap} {ks:List (List Str)} {l:List (Int×Value)} {S:Addr} {o:Obj} {es ep t} (x:Ent prog w h ks l) (ho:h.get? S=some o) (hd:o.data=.set es ep t) (hs:FJ S h h'):Ent prog w h' ks l:=fun e he=>by
 obtain ⟨k,a,h1,h2,h3⟩:=x e he
 exact ⟨k,a,h1,h2,h3.keeps ho hd hs⟩
theorem j5 {h:Heap} {S:Addr} {o:Obj} {es es':Array (Int×Value)} {ep:Nat} {t t':SetTable} (ho:h.get? S=some o) (hd:o.data=.set es ep t):(h.update S (Js es' t')).get? S=some { o with data:=.set es' (ep + 1) t' }:=by
 have:=ID (Js es' t') ho (by rw [putSet_of es' t' hd]; rfl)
 rw [putSet_of es' t' hd] at this; exact this
theorem Ent.insert {h:Heap} {ks:List (List Str)} {es:Array (Int×Value)} {k:List Str} {b:Addr} {p:Nat} {x:Int} (hE:Ent prog w h ks es.toList) (hb:TK prog w h k b):Ent prog w h (k :: ks) (uk es p (x,.ref b)).toList:=fun e he=>by
 have he':=(Ku es p (x,r_ b)).mem_iff.mp he
 rw [JQ] at he'
 rcases A_.mp he' with q | q
 · obtain ⟨k',a,h1,h2,h3⟩:=hE e q
   exact ⟨k',a,k_ _ h1,h2,h3⟩
 · rw [EE] at q
   subst q
   exact ⟨k,b,h_,rfl,hb⟩
theorem pZ {t:SetTable} {n:Nat} (T:Tb t n):t.fill=n:=by unfold MY; rw [T.size,T.dm]; simp
theorem sT {α:Type} (es:Array α):(g_ es.size).filterMap (fun i=>es[i]?)=es.toList:=by
 apply Iz
 intro i
 have:(g_ es.size).filterMap (fun i=>es[i]?)=(g_ es.size).pmap (fun i h=>es[i]) (fun i h=>EH.mp h):=by
  rw [List.pmap_eq_map_attach,← List.filterMap_eq_map]
  conv=>lhs; rw [← List.attach_map_subtype_val (g_ es.size)]
  rw [JB]
  congr 1
  funext ⟨i,hi⟩
  simp [EH.mp hi]
 rw [this]
 simp [List.getElem?_pmap,Gd]
 by_cases hi:i < es.size
 · simp [hi]
 · simp [hi]
end
end ST
namespace ST
open PySem PySem.SetTable PyProof.Rows
section
variable {prog:Program} {w:w_} {A:u_} {R:Mh→c_→Prop} {I:Addr} {fp wr:List Addr} {G:Array Jt→Array Jt→Prop} {n:Nat} {P:Nat→Value→Prop} {St:Nat→c_→Prop}
theorem TK.moved {h h':Heap} {k:List Str} {a:Addr} (x:TK prog w h k a) (hm:∀ o,h.get? a=some o→h'.get? a=some o):TK prog w h' k a:=by
 obtain ⟨o',items,n,ho',hc,hd',hi⟩:=x
 exact ⟨o',items,n,hm _ ho',hc,hd',hi⟩
theorem SetT.moved {h h':Heap} {S:Addr} {ks:List (List Str)} {n:Nat} (x:SetT prog w h S ks n) (hS:∀ o,h.get? S=some o→h'.get? S=some o) (hm:∀ k∈ks,∀ a,TK prog w h k a→TK prog w h' k a):SetT prog w h' S ks n:=by
 obtain ⟨o,es,ep,t,ho,hex,hd,hsz,T,hmk,hE⟩:=x
 exact ⟨o,es,ep,t,hS _ ho,hex,hd,hsz,T,hmk,fun e he=>let ⟨k,a,h1,h2,h3⟩:=hE e he; ⟨k,a,h1,h2,hm k h1 a h3⟩⟩
end
section
variable {prog:Program} {w:w_} {A:u_} {E:Value→c_→Prop} {s:c_}
abbrev nP (led:Bool):Obj:={ cls:=.type "set",dict:=none,data:=.set #[] 0 (.fresh 0 0 led) }
end
end ST
namespace FD
open PySem PySem.Spec PyProof.Rows L2
def aN:List Dv→Option (List Str)
 | []=>some []
 | .str x :: r=>(aN r).map (x :: ·)
 | _=>none
def gh:List Dv→Option (List (List Str))
 | []=>some []
 | .tup ds :: r=>match aN ds,gh r with
  | some k,some ks=>some (k :: ks)
  | _,_=>none
 | _=>none
section
variable {X:Cx} {pins:List (Addr×Obj)} {σ:L2.St} {H:Hp} {s:c_}
theorem ii {prog:Program} {w:w_}:∀ {ds:List Dv} {k:List Str} {ys:List V} {its:List Value},aN ds=some k→Reps X.K H ds ys→Vals ys its→MR (JU prog w) k its
 | [],k,ys,its,h,r,v=>by
  cases h
  cases (show ys=[] from r)
  cases v
  exact .nil
 | .str x :: ds,k,ys,its,h,r,v=>by
  obtain ⟨y,us,rfl,r1,r2⟩:∃ v us,ys=v :: us∧Rep X.K H (.str x) v∧Reps X.K H ds us:=r
  cases (show y=.str x from r1)
  obtain ⟨k',h1,rfl⟩:=EB.mp (show (aN ds).map (x :: ·)=some k from h)
  cases v with
  | cons v1 v2 =>
   obtain ⟨t,rfl⟩:=v1
   exact .cons (by show HK x (.str x t)=true; simp [HK]) (ii h1 r2 v2)
 | .non :: ds,k,ys,its,h,r,v=>by cases h
 | .bl _ :: ds,k,ys,its,h,r,v=>by cases h
 | .int _ :: ds,k,ys,its,h,r,v=>by cases h
 | .tup _ :: ds,k,ys,its,h,r,v=>by cases h
 | .lst _ :: ds,k,ys,its,h,r,v=>by cases h
 | .scr _ :: ds,k,ys,its,h,r,v=>by cases h
 | .exn _ :: ds,k,ys,its,h,r,v=>by cases h
theorem CN (I:Inv X pins σ H s) {ds:List Dv} {k:List Str} {v:V} {u:Value} (h:aN ds=some k) (r:Rep X.K H (.tup ds) v) (q:RelV v u):∃ a,u=.ref a∧ST.TK X.prog X.w s.heap k a:=by
 obtain ⟨a,xs,rfl,hH,rs⟩:=r.tupE
 cases (show u=r_ a from q)
 obtain ⟨its,rv,⟨o,e,c,n,d⟩,hz⟩:=I.tuple (SqT.of hH)
 exact ⟨a,rfl,o,its.toArray,_,e,c,d,by simpa using ii h rs rv⟩
theorem p0 (I:Inv X pins σ H s):∀ {ds:List Dv} {ks:List (List Str)} {xs:List V} {its:List Value},gh ds=some ks→Reps X.K H ds xs→Vals xs its→ks.length=its.length∧∀ i,i < its.length→∃ a,its[i]?=some (.ref a)∧ST.TK X.prog X.w s.heap (ks.getD i []) a
 | [],ks,xs,its,h,r,v=>by
  cases h
  cases (show xs=[] from r)
  cases v
  exact ⟨rfl,fun i hi=>absurd hi (Gs _)⟩
 | .tup es :: ds,ks,xs,its,h,r,v=>by
  obtain ⟨y,us,rfl,r1,r2⟩:∃ v us,xs=v :: us∧Rep X.K H (.tup es) v∧Reps X.K H ds us:=r
  unfold gh at h
  split at h
  · rename_i k ks' h1 h2
    cases h
    cases v with
    | cons v1 v2 =>
     obtain ⟨a,rfl,ta⟩:=CN I h1 r1 v1
     obtain ⟨q1,q2⟩:=p0 I h2 r2 v2
     refine ⟨by simp [q1],fun i hi=>?_⟩
     cases i with
     | zero=>exact ⟨a,rfl,ta⟩
     | succ i =>
      obtain ⟨a',e1,e2⟩:=q2 i (by simpa using hi)
      exact ⟨a',by simpa using e1,by simpa using e2⟩
  · cases h
 | .non :: ds,ks,xs,its,h,r,v=>by cases h
 | .bl _ :: ds,ks,xs,its,h,r,v=>by cases h
 | .int _ :: ds,ks,xs,its,h,r,v=>by cases h
 | .str _ :: ds,ks,xs,its,h,r,v=>by cases h
 | .lst _ :: ds,ks,xs,its,h,r,v=>by cases h
 | .scr _ :: ds,ks,xs,its,h,r,v=>by cases h
 | .exn _ :: ds,ks,xs,its,h,r,v=>by cases h
end
section
variable {X:Cx} {p p2 pos pos2:Pos} {e:Expr} {ga:FnA}
end
section
variable {X:Cx}
end
def frs {α:Type} (P:α→Bool):Sem α→Bool
 | .pure a=>P a
 | .fresh _=>true
 | .at _ k=>frs P (k ())
 | .rule _ k=>frs P (k ())
 | .point _ k=>frs P (k ())
 | _=>false
structure FE1 (X:Cx) (e:Expr) (f:FnE):Prop where
 h:∀ (pins:List (Addr×Obj)) (s:c_) (σ:L2.St) (H:Hp) (Q:VK),1≤s.toks→Inv X pins σ H s→tF X f σ H Q→l_ (s_ X.prog X.w) X.A (eval e X.env) (EP X pins σ Q) X.xe s
structure FT1 (X:Cx) (e:Expr) (f:FnB):Prop where
 h:∀ (pins:List (Addr×Obj)) (s:c_) (σ:L2.St) (H:Hp) (Q:Bool→Hp→Prop),1≤s.toks→Inv X pins σ H s→tT X f σ H Q→l_ (s_ X.prog X.w) X.A (isTrue e X.env (eval e X.env)) (TP X pins σ Q) X.xe s
structure FW1 (X:Cx) (e:Expr) (f:FnB):Prop where
 h:∀ (whole:Sem Value) (pins:List (Addr×Obj)) (s:c_) (σ:L2.St) (H:Hp) (Q:Bool→Hp→Prop),1≤s.toks→Inv X pins σ H s→tT X f σ H Q→l_ (s_ X.prog X.w) X.A (isTrue e X.env whole) (TP X pins σ Q) X.xe s
structure FS1 (X:Cx) (st:Stmt) (f:FnS):Prop where
 h:∀ (pins:List (Addr×Obj)) (s:c_) (σ:L2.St) (H:Hp) (D:oB),1≤s.toks→Inv X pins σ H s→tS X f D σ H→l_ (s_ X.prog X.w) X.A (exec st X.env) (SP X pins D) X.xe s
structure Eu (X:Cx) (st:List Stmt) (f:FnS):Prop where
 h:∀ (pins:List (Addr×Obj)) (s:c_) (σ:L2.St) (H:Hp) (D:oB),1≤s.toks→Inv X pins σ H s→tS X f D σ H→l_ (s_ X.prog X.w) X.A (execs st X.env) (SP X pins D) X.xe s
structure FTg (X:Cx) (e:Expr) (f:FnB):Prop where
 h:∀ (pins:List (Addr×Obj)) (s:c_) (σ:L2.St) (H:Hp) (Q:Bool→Hp→Prop),Inv X pins σ H s→tT X f σ H Q→l_ (s_ X.prog X.w) X.A (isTrue e X.env (eval e X.env)) (fun b s'=>(b=true∨1≤s'.toks)∧TP X pins σ Q b s') X.xe s
structure FWg (X:Cx) (e:Expr) (f:FnB):Prop where
 h:∀ (whole:Sem Value) (pins:List (Addr×Obj)) (s:c_) (σ:L2.St) (H:Hp) (Q:Bool→Hp→Prop),Inv X pins σ H s→tT X f σ H Q→l_ (s_ X.prog X.w) X.A (isTrue e X.env whole) (fun b s'=>(b=true∨1≤s'.toks)∧TP X pins σ Q b s') X.xe s
def zK:Flow→Bool
 | .next=>true
 | _=>false
structure FSg (X:Cx) (st:Stmt) (f:FnS):Prop where
 h:∀ (pins:List (Addr×Obj)) (s:c_) (σ:L2.St) (H:Hp) (D:oB),Inv X pins σ H s→tS X f D σ H→l_ (s_ X.prog X.w) X.A (exec st X.env) (fun fl s'=>(zK fl=false∨1≤s'.toks)∧SP X pins D fl s') X.xe s
section
variable {X:Cx} {a b o e:Expr} {fa fo:FnE} {ga gb:FnB} {f g:FnS} {rest:List Expr} {st:Stmt} {sts as bs:List Stmt} {pos apos cpos:Pos}
theorem FWg.ft (h:FWg X e ga):FTg X e ga:=⟨h.h _⟩
end
section
variable {prog:Program} {w:w_} {A:u_} {E:Value→c_→Prop} {s:c_}
theorem nQ {iv tv:Addr} {k:Nat} {vs:Array Value} {v:Value} {Q:Value→c_→Prop} (gi:s.heap.IsTupleIter iv tv k) (gt:s.heap.IsTuple tv vs) (gv:vs[k]?=some v)
 (q:∀ h',h'.IsTupleIter iv tv (k + 1)→FJ iv s.heap h'→Q v { s with heap:=h' }):l_ (s_ prog w) A (GF (.ref iv)) Q E s:=by
 obtain ⟨ob,o1,o2,o3⟩:=id gi; obtain ⟨tb,t1,_,m,t2⟩:=gt
 unfold GF
 refine a_ (Fj (name:=b_ "__next__") gi.typeIs Gy (Ft Gy gi.typeIs Je ?_ (I_ _)))
 show l_ _ _ (MH (.ref iv) 0 >>= _) _ _ s; refine a_ (F3 o1 o3 (x:=.ref tv) rfl ?_)
 show l_ _ _ (if (r_ tv == EQ)=true then _ else _) _ _ s; rw [if_neg (show ¬ ((r_ tv == EQ)=true) from p_)]
 show l_ _ _ (MH (.ref iv) 1 >>= _) _ _ s; refine a_ (F3 o1 o3 (x:=.int k 0) rfl ?_)
 show l_ _ _ (seqItems? (.ref tv) >>= _) _ _ s; refine a_ (Jj t1 t2 ?_); simp only [IA,gv]
 refine a_ (Ji o1 o3 (by simp) (d_ ⟨v,rfl,d_ (q _ ⟨_,ID _ o1 (KU (HU o3 _)),(L4 ..).trans o2,by rw [HU o3]; simp [IX]⟩ (Gv ..))⟩))
theorem p8 {iv tv:Addr} {k:Nat} {vs:Array Value} {Q:Value→c_→Prop} (hh:A.handled=none) (gi:s.heap.IsTupleIter iv tv k) (gt:s.heap.IsTuple tv vs) (gv:vs[k]?=none)
 (q:∀ h' e,Mv iv s.heap h'→(∃ o,h'.get? e=some o∧o.cls=.type "StopIteration")→E (.ref e) { s with heap:=h' }):l_ (s_ prog w) A (GF (.ref iv)) Q E s:=by
 obtain ⟨ob,o1,o2,o3⟩:=id gi; obtain ⟨tb,t1,_,m,t2⟩:=gt
 unfold GF
 refine a_ (Fj (name:=b_ "__next__") gi.typeIs Gy (Ft Gy gi.typeIs Je ?_ (I_ _)))
 show l_ _ _ (MH (.ref iv) 0 >>= _) _ _ s; refine a_ (F3 o1 o3 (x:=.ref tv) rfl ?_)
 show l_ _ _ (if (r_ tv == EQ)=true then _ else _) _ _ s; rw [if_neg (show ¬ ((r_ tv == EQ)=true) from p_)]
 show l_ _ _ (MH (.ref iv) 1 >>= _) _ _ s; refine a_ (F3 o1 o3 (x:=.int k 0) rfl ?_)
 show l_ _ _ (seqItems? (.ref tv) >>= _) _ _ s; refine a_ (Jj t1 t2 ?_); simp only [IA,gv]
 refine a_ (II (a_ (Ji o1 o3 (by simp) ?_)))
 show l_ _ _ (newExc (.type "StopIteration") [] >>= _) _ _ _; refine a_ ?_; simp only [newExc,newTuple]; refine a_ (Fq ?_ (by size_fits))
 refine a_ (m:=Jl _ _) (wpAny_of_eq (a:=EQ) (by first | rfl | (simp only [Jl]; rfl)) ?_); refine Fq ?_ (by size_fits); simp only [raiseNew]
 refine a_ (wpAny_handled ?_); first | rw [show A.in1.handled=none from hh] | rw [hh]
 exact a_ (d_ (wpAny_throw (q _ _ (((Gv ..).extBut.push _).push _) ⟨_,o_ _ rfl,rfl⟩)))
end
abbrev zq1 (h:Heap) (l1:Addr):Heap:=h.push { cls:=.type "tuple_iterator",data:=.fields #[.ref l1,.int 0 0] }
section
variable {prog:Program} {w:w_} {A:u_} {E:Value→c_→Prop} {s:c_}
end
structure ZSt (z TI TO i1 i2 a b:Addr) (i:Nat) (h:Heap):Prop where
 z:IsZip h z TI TO .none
 ti:IsPair h TI (.ref i1) (.ref i2)
 to:∃ p q,IsPair h TO p q
 j1:h.IsTupleIter i1 a i
 j2:h.IsTupleIter i2 b i
structure ZNe (z TI TO i1 i2:Addr):Prop where
 n1:TI≠z
 n2:TO≠z
 n3:i1≠z
 n4:i2≠z
 n5:TI≠TO
 n6:TI≠i1
 n7:TI≠i2
 n8:TO≠i1
 n9:TO≠i2
 n10:i1≠i2
theorem Ew {z TI TO i1 i2 c:Addr} (h:c∈[z,TI,TO,i1,i2]):c=z∨c=TI∨c=TO∨c=i1∨c=i2:=by simpa using h
def tgG (X:Cx) (b:Dv→Ev→Option Ev):TG:=fun v σ H Q=>∃ d ρ ρ',Rep X.K H d v∧Envs X.K H σ ρ∧b d ρ=some ρ'∧∀ σ' H',Same H H'→Envs X.K H' σ' ρ'→Q σ' H'
theorem FG.pg {X:Cx} {tg:Expr} {b:Dv→Ev→Option Ev} (h:FG X tg b):PG X tg (tgG X b):=fun pins s σ H v u Q I r ⟨d,ρ,ρ',rd,E,e,q⟩ =>
 thn (h.h pins s σ H v u d ρ ρ' I r rd E e) fun _ s' ⟨σ',H',I',e1,E'⟩=>⟨σ',H',I',q σ' H' e1 E'⟩
section
variable {X:Cx} {p pos:Pos} {e:Expr} {es:List Expr} {ga:FnA}
end
theorem Reps.set {K:ck} {H:Hp} {d:Dv} {v:V} (rd:Rep K H d v):∀ {ds:List Dv} {vs:List V} (j:Nat),Reps K H ds vs→Reps K H (ds.set j d) (vs.set j v)
 | [],vs,j,r=>by cases (show vs=[] from r); exact r
 | d0 :: ds,vs,0,r=>by
  obtain ⟨v0,vs',rfl,r0,rt⟩:∃ v us',vs=v :: us'∧Rep K H d0 v∧Reps K H ds us':=r
  exact ⟨v,vs',rfl,rd,rt⟩
 | d0 :: ds,vs,j + 1,r=>by
  obtain ⟨v0,vs',rfl,r0,rt⟩:∃ v us',vs=v :: us'∧Rep K H d0 v∧Reps K H ds us':=r
  exact ⟨v0,vs'.set j v,rfl,r0,Reps.set rd j rt⟩
section
variable {X:Cx} {i:Nat} {e ix:Expr} {fe fi:FnE} {pos ps:Pos}
end
section
variable {X:Cx} {p pos:Pos} {e:Expr} {es:List Expr} {ga:FnA}
end
def i4 (j k:Nat) (js:List Nat) (body:dC):List Dv→Ev→List Dv→Option Fo
 | [],ρ,xs=>some (.nx (fgt js ρ) xs)
 | .tup [a,c] :: ds,ρ,xs=>(match body (((fgt js ρ).set j (some a)).set k (some c)) xs with
  | some (.nx ρ' xs')=>i4 j k js body ds ρ' xs'
  | o=>o)
 | _ :: _,_,_=>none
def nR (j k:Nat) (js:List Nat) (src:FnA) (body:dC):dC:=fun ρ xs=>pL (src ρ) fun ds=>if imms ds=true then i4 j k js body ds ρ xs else none
def tgP (K:ck) (j k:Nat):TG:=fun v σ H Q=>∃ p va vc,v=.ref p∧SqT K H p [va,vc]∧Q ((σ.set j (some va)).set k (some vc)) H
theorem wB {X:Cx} {pos p1 p2:Pos} (i j:Nat) {x y:Str} {k:Nat} (hc:X.calm=true) (hN:X.N.Nodup) (hi:X.N[i]?=some x) (hx:Loc X.env.scope x) (hf:X.fn x=true∨X.env.scope.names.lookup x=some .local)
 (hj:X.N[j]?=some y) (hy:Loc X.env.scope y) (hg:X.fn y=true∨X.env.scope.names.lookup y=some .local)
 (hs1:(C_ [.Name x p1,.Name y p2] X.env).map (·.2)=Hn (.Name x p1) X.env :: (C_ [.Name y p2] X.env).map (·.2):=by kernel_rfl) (hs2:(C_ [.Name y p2] X.env).map (·.2)=Hn (.Name y p2) X.env :: (C_ [] X.env).map (·.2):=by kernel_rfl)
 (hn:(C_ [.Name x p1,.Name y p2] X.env).length=2:=by kernel_rfl) (hst:(C_ [.Name x p1,.Name y p2] X.env).findIdx? (·.1)=none:=by kernel_rfl):PG X (.Tuple [.Name x p1,.Name y p2] k pos) (tgP X.K i j) :=
 fun pins s σ H v u Q I r ⟨p,va,vc,e,hq,q⟩ =>
  oQ (n:=2) hc (dQ (cq (i:=i) hN hi hx hf) (dQ (cq (i:=j) hN hj hy hg) k6 hs2) hs1) hn hst pins s σ H v u Q I r ⟨p,_,e,hq,rfl,va,[vc],rfl,vc,[],rfl,rfl,q⟩
theorem wC {X:Cx} {i:Nat} {tg iter:Expr} {body:List Stmt} {pos:Pos} {src:FnA} {fb:dC} (hex:X.ex=[]) (j k:Nat) (js:List Nat) (hij:i≠j) (hik:i≠k) (hp:Ia (s_ X.prog X.w) X.A X.env X.xe) (hc:X.calm=true) (hi:FIG X tg iter src) (hg:PG X tg (tgP X.K j k)) (hb:FOs X i body fb)
 (hs:∀ x,EJ iter X.env x=pure x:=by intro _; kernel_rfl):FO1 X i (.For tg iter body [] pos) (nR j k js src fb):=⟨fun pins s σ Hf D I ⟨H,a,xs,ρ,ds,e1,ha,hia,E,r,o⟩=>by
 refine mo hp hc (pK hex hi.h) hg hb.h hs pins s σ Hf D I ⟨H,a,xs,e1,ha,ρ,E,?_⟩
 unfold nR at o
 match hf:src ρ with
 | none=>rw [hf] at o; exact o.elim
 | some (.exc _)=>rw [hf] at o; exact o.elim
 | some (.ok us) =>
  rw [hf] at o
  have o0:OutW X i a H (if imms us=true then i4 j k js fb us ρ ds else none) D:=o
  by_cases him:imms us=true
  · rw [if_pos him] at o0
    intro J H1 e1 wk ha1
    have o1:=OutW.mono e1 o0
    refine ⟨fun n m σ' Hf'=>m=us.length - n∧n≤us.length∧∃ H' xs' ρ' ds',Hf'=upd H' a (.lst xs')∧H' a=none∧Same H1 H'∧σ'[i]?=some (some (.ref a))∧Envs X.K H' σ' ρ'∧Reps X.K H' ds' xs'∧OutW X i a H' (i4 j k js fb (us.drop n) ρ' ds') D,
     ⟨us.length,by simp,EK _,H1,xs,ρ,ds,rfl,ha1,.refl H1,hia,E.mono e1,Reps.mono e1 _ _ r,by simpa using o1⟩,?_⟩
    rintro n m σ' Hf' ⟨rfl,hn,H',xs',ρ',ds',rfl,ha',e2,hia',E',r',o'⟩
    have e2f:Same H1 (upd H' a (.lst xs')):=e2.trans (cx ha')
    by_cases hlt:n < us.length
    · refine .inr ⟨wk.go n _ e2f hlt,fun σ2 Hf2=>∃ H2 xs2 ρ2 ds2,Hf2=upd H2 a (.lst xs2)∧H2 a=none∧Same H1 H2∧σ2[i]?=some (some (.ref a))∧Envs X.K H2 σ2 ρ2∧Reps X.K H2 ds2 xs2∧OutW X i a H2 (i4 j k js fb (us.drop (n + 1)) ρ2 ds2) D,
       fun σ2 Hf2 q=>⟨us.length - (n + 1),by omega,rfl,hlt,q⟩,fun x H2 y=>?_⟩
      obtain ⟨e4,d,hd,rd⟩:=wk.yld n _ x H2 e2f hlt y
      have him':=dZ him hd
      rw [c4 hd] at o'
      obtain ⟨d1,d2,rfl⟩:∃ d1 d2,d=.tup [d1,d2]:=by
       match d,o' with
       | .tup [d1,d2],_=>exact ⟨d1,d2,rfl⟩
       | .tup [],o'=>exact (show False from o').elim
       | .tup [_],o'=>exact (show False from o').elim
       | .tup (_ :: _ :: _ :: _),o'=>exact (show False from o').elim
       | .non,o'=>exact (show False from o').elim
       | .bl _,o'=>exact (show False from o').elim
       | .int _,o'=>exact (show False from o').elim
       | .str _,o'=>exact (show False from o').elim
       | .lst _,o'=>exact (show False from o').elim
       | .scr _,o'=>exact (show False from o').elim
       | .exn _,o'=>exact (show False from o').elim
      unfold i4 at o'
      · obtain ⟨p,vs,rfl,hpv,rv⟩:=rd.tupE
        obtain ⟨va,vc,rfl,ra,rc⟩:=y9 rv
        have hi2:imm d1=true∧imm d2=true:=by simpa [imm,imms] using him'
        have hat:H2 a=some (.lst xs'):=e4 _ _ ai
        let H3:Hp:=fun b=>if b=a then none else H2 b
        have h3a:H3 a=none:=by simp [H3]
        have h3e:upd H3 a (.lst xs')=H2:=by
         funext b
         by_cases hb:b=a
         · rw [hb,ai,hat]
         · rw [am hb]; simp [H3,hb]
        have s3:Same H' H3:=fun b o q=>by
         have hb:b≠a:=fun z=>by rw [z,ha'] at q; cases q
         have:=e4 b o (by rw [am hb]; exact q)
         simpa [H3,hb] using this
        rw [← h3e] at ra rc
        have ra':=fG hi2.1 ra
        have rc':=fG hi2.2 rc
        refine ⟨p,va,vc,rfl,SqT.of hpv,?_⟩
        show tO X i fb _ _ _
        refine ⟨H3,a,xs',((fgt js ρ').set j (some d1)).set k (some d2),ds',h3e.symm,h3a,by rw [v_ (GE hik),v_ (GE hij)]; exact hia',(((Envs.fgt js E').mono s3).set ra').set rc',Reps.mono s3 _ _ r',?_⟩
        have o2:=OutW.mono s3 o'
        match hb':fb (((fgt js ρ').set j (some d1)).set k (some d2)) ds' with
        | none=>rw [hb'] at o2; exact o2
        | some (.rt r)=>rw [hb'] at o2; exact o2
        | some (.nx ρ2 ds2)=>rw [hb'] at o2; exact fun σ2 H4 xs3 e3 h3 hi3 E3 r3=>⟨H4,xs3,ρ2,ds2,rfl,h3,(e2.trans s3).trans e3,hi3,E3,r3,OutW.mono e3 o2⟩
    · have hn':n=us.length:=by omega
      subst hn'
      rw [HC] at o'
      exact .inl ⟨wk.stop _ e2f,o' σ' H' xs' (.refl H') ha' hia' (Envs.fgt js E') r'⟩
  · rw [if_neg him] at o0
    exact o0.elim⟩
section
variable {X:Cx}
end
section
variable {X:Cx}
end
end FD
namespace ST
open PySem PySem.SetTable
abbrev Rise (xs:Array Nat):Prop:=xs.toList.Pairwise (· < ·)
theorem Rise.lt {xs:Array Nat} (R:Rise xs) {i k:Nat} (hi:i < xs.size) (hk:k < xs.size) (h:i < k):xs[i] < xs[k]:=by
 have:=GH.mp R i k (by simpa using hi) (by simpa using hk) h
 simpa using this
theorem Rise.le {xs:Array Nat} (R:Rise xs) {i k:Nat} (hi:i < xs.size) (hk:k < xs.size) (h:i≤k):xs[i]≤xs[k]:=by
 rcases Nat.lt_or_ge i k with h' | h'
 · exact Iu (R.lt hi hk h')
 · have:i=k:=by omega
   subst this
   exact j_ _
theorem i5 {xs:Array Nat} (R:Rise xs) (j:Nat):∀ (fuel lo hi:Nat),lo≤hi→hi≤xs.size→hi - lo≤fuel→(∀ i (h:i < xs.size),i < lo→xs[i] < j)→(∀ i (h:i < xs.size),hi≤i→j≤xs[i]) →
 (∀ i (h:i < xs.size),i < J7 xs j fuel lo hi→xs[i] < j)∧(∀ i (h:i < xs.size),J7 xs j fuel lo hi≤i→j≤xs[i])
 | 0,lo,hi,h1,h2,h3,a,b=>by
  unfold J7
  have:lo=hi:=by omega
  subst this
  exact ⟨a,b⟩
 | fuel + 1,lo,hi,h1,h2,h3,a,b=>by
  unfold J7
  split
  · rename_i hlt
    have hm:(lo + hi) / 2 < xs.size:=by omega
    dsimp only
    have hg:xs.getD ((lo + hi) / 2) j=xs[(lo + hi) / 2]:=by simp [Array.getD,hm]
    rw [hg]
    split
    · rename_i hc
      exact i5 R j fuel _ hi (by omega) h2 (by omega) (fun i h hi'=>LL (R.le h hm (by omega)) hc) b
    · rename_i hc
      exact i5 R j fuel lo _ (by omega) (by omega) (by omega) a fun i h hi'=>EM (Mn hc) (R.le hm h hi')
  · have:lo=hi:=by omega
    subst this
    exact ⟨a,b⟩
theorem ij {xs:Array Nat} (R:Rise xs) (j:Nat):(∀ i (h:i < xs.size),i < below xs j→xs[i] < j)∧(∀ i (h:i < xs.size),below xs j≤i→j≤xs[i]) :=
 i5 R j xs.size 0 xs.size (EK _) (j_ _) (by omega) (fun i h hi=>absurd hi (Gs _)) fun i h hi=>absurd h (by omega)
theorem sU {xs:Array Nat} (R:Rise xs) {i j:Nat} (h:xs[i]?=some j):below xs j=i:=by
 obtain ⟨hi,e⟩:=Fp.mp h
 obtain ⟨a,b⟩:=ij R j
 rcases Nat.lt_trichotomy (below xs j) i with q | q | q
 · have h1:=b (below xs j) (by omega) (j_ _)
   have h2:=R.lt (by omega) hi q
   omega
 · exact q
 · have h1:=a i hi q
   omega
theorem j6 {t:SetTable} (R:Rise t.place) {i j:Nat} (h:t.place[i]?=some j):t.slot j=.live i:=by
 unfold MX
 dsimp only
 rw [sU R h,h]
 simp
theorem ln {t:SetTable} {n:Nat} (T:Tb t n) (R:Rise t.place) {j:Nat}:t.slot j≠.empty↔j∈t.place.toList:=by
 constructor
 · intro h
   rcases dr T j with q | ⟨i,_,e⟩
   · exact absurd q h
   · exact Fb.mpr (IH e)
 · intro h
   obtain ⟨i,hi,e⟩:=HH h
   have:t.place[i]?=some j:=by
    rw [← FZ,n_ hi,e]
   rw [j6 R this]
   intro z
   cases z
def tm (m:Nat):SetTable:={ mask:=m,place:=#[],dummies:=#[],finger:=0,led:=true,moves:=0,plain:=true }
theorem j7 (t:SetTable):∀ (n:Nat) (p:Probe),advN t n p=advN (tm t.mask) n p
 | 0,p=>rfl
 | n + 1,p=>j7 t n _
def pos (m:Nat) (h:Int) (n:Nat):Nat:=(advN (tm m) n ((tm m).probeStart h)).j
theorem mH (t:SetTable) (h:Int) (n:Nat):(advN t n (t.probeStart h)).j=pos t.mask h n:=by
 rw [j7]; rfl
def Pth (m:Nat) (l:List Nat) (h:Int) (j:Nat):Prop:=∃ N,N < 10 * IR m∧pos m h N=j∧∀ x,x < N→pos m h x∈l
theorem Pth.mono {m:Nat} {l l':List Nat} {h:Int} {j:Nat} (p:Pth m l h j) (hs:∀ x∈l,x∈l'):Pth m l' h j:=by
 obtain ⟨N,h1,h2,h3⟩:=p
 exact ⟨N,h1,h2,fun x hx=>hs _ (h3 x hx)⟩
def asc (t:SetTable) (es:Array (Int×Value)):List (Nat×(Int×Value)):=t.place.toList.zip es.toList
def Pa (t:SetTable) (es:Array (Int×Value)):Prop:=∀ je∈asc t es,Pth t.mask t.place.toList je.2.1 je.1
theorem mI {α:Type} (xs:Array α) (p:Nat) (x:α) (h:p≤xs.size):(uk xs p x).toList=xs.toList.take p ++ x :: xs.toList.drop p:=by
 rw [SetTable.toList_insertAt]
theorem wD {α β:Type} (a:List α) (b:List β) (p:Nat) (x:α) (y:β) (hl:a.length=b.length):(a.take p ++ x :: a.drop p).zip (b.take p ++ y :: b.drop p)=(a.zip b).take p ++ (x,y) :: (a.zip b).drop p:=by
 rw [List.zip_append (by simp [hl]),LN]
 simp only [List.zip_eq_zipWith,List.take_zipWith,List.drop_zipWith]
theorem p9 {α:Type} (l:List α) (p:Nat) (x y:α):y∈l.take p ++ x :: l.drop p↔y=x∨y∈l:=by
 rw [A_,pi]
 constructor
 · rintro (h | h | h)
   · exact .inr (List.mem_of_mem_take h)
   · exact .inl h
   · exact .inr (Lc h)
 · rintro (h | h)
   · exact .inr (.inl h)
   · rw [← List.take_append_drop p l,A_] at h
     rcases h with h | h
     · exact .inl h
     · exact .inr (.inr h)
theorem sV {t:SetTable} {n:Nat} (T:Tb t n) (R:Rise t.place) {es:Array (Int×Value)} (hs:es.size=n) {j:Nat} (hj:t.slot j=.empty) (e:Int×Value) :
 Rise (t.put j).1.place∧(∀ x,x∈(t.put j).1.place.toList↔x=j∨x∈t.place.toList)∧∀ x,x∈asc (t.put j).1 (uk es (t.put j).2 e)↔x=(j,e)∨x∈asc t es:=by
 have hn:j ∉ t.place.toList:=fun h=>(ln T R).mpr h hj
 have hp:(t.put j).2=below t.place j:=rfl
 have hle:=iZ t.place j
 have e1:(t.put j).1.place.toList=t.place.toList.take (below t.place j) ++ j :: t.place.toList.drop (below t.place j):=mI _ _ _ hle
 have e2:(uk es (t.put j).2 e).toList=es.toList.take (below t.place j) ++ e :: es.toList.drop (below t.place j):=mI _ _ _ (by rw [hp,hs,← T.size]; exact hle)
 obtain ⟨a,b⟩:=ij R j
 refine ⟨?_,fun x=>by rw [e1]; exact p9 _ _ _ _,fun x=>?_⟩
 · show (t.put j).1.place.toList.Pairwise (· < ·)
   rw [e1,Hw,xy]
   have lo:∀ x∈t.place.toList.take (below t.place j),x < j:=by
    intro x hx
    obtain ⟨i,hi,e⟩:=HH hx
    rw [List.getElem_take] at e
    have h1:i < below t.place j∧i < t.place.size:=by simp only [IN,Fg] at hi; omega
    have:=a i h1.2 h1.1
    rw [← e]
    simpa using this
   have hi':∀ x∈t.place.toList.drop (below t.place j),j < x:=by
    intro x hx
    have hm:=Lc hx
    obtain ⟨i,hi,e⟩:=HH hx
    rw [List.getElem_drop] at e
    have h1:below t.place j + i < t.place.size:=by simp only [Kh,Fg] at hi; omega
    have:=b _ h1 (Nat.le_add_right _ _)
    have h2:j≤x:=by rw [← e]; simpa using this
    have:j≠x:=fun z=>hn (z ▸ hm)
    omega
   exact ⟨R.sublist (L7 _ _),⟨hi',R.sublist (List.drop_sublist _ _)⟩,fun x hx y hy=>by
    rcases pi.mp hy with rfl | hy
    · exact lo x hx
    · exact Jh (lo x hx) (hi' y hy)⟩
 · unfold asc
   rw [e1,e2,wD _ _ _ _ _ (by simp [T.size,hs])]
   exact p9 _ _ _ _
theorem mJ (t:SetTable):∀ (k:Nat) (p:Probe),k≤p.more→(advN t k p).j=p.j + k
 | 0,p,_=>rfl
 | k + 1,p,h=>by
  show (advN t k (t.advance p)).j=_
  rw [iY t p (by omega),mJ t k _ (by show k≤p.more - 1; omega)]
  show p.j + 1 + k=p.j + (k + 1)
  omega
theorem nS {P:Nat→Bool}:∀ {n k:Nat},(g_ n).find? P=some k→k < n∧P k=true∧∀ x,x < k→P x=false:=by
 intro n k h
 have h1:=KR h
 have h2:=EH.mp (JC h)
 refine ⟨h2,h1,fun x hx=>?_⟩
 rw [List.find?_eq_some_iff_append] at h
 obtain ⟨_,as,bs,e,hn⟩:=h
 have hk:as.length=k:=by
  have:=congrArg (fun l=>l[as.length]?) e
  simp only [Fz (j_ _),Nat.sub_self,List.getElem?_cons_zero] at this
  rw [B_] at this
  obtain ⟨q,r⟩:=this
  simpa using r
 have hxm:x∈as:=by
  have this:(g_ n)[x]?=(as ++ k :: bs)[x]?:=by rw [e]
  rw [Gg (by omega),Gd (by omega)] at this
  exact Fy this.symm
 have:=hn x hxm
 simpa using this
theorem j8 {m:Nat} {owner:Array (Option Nat)}:∀ (fuel:Nat) (p:Probe) (j:Nat),p.j=p.i→p.more=IK m p.i - p.i→F6 m owner fuel p.i p.perturb=some j →
 (owner.getD j (some 0)).isNone=true∧∃ N,N < 10 * fuel∧(advN (tm m) N p).j=j∧∀ x,x < N→(owner.getD (advN (tm m) x p).j (some 0)).isNone=false
 | 0,p,j,_,_,h=>by unfold F6 at h; cases h
 | fuel + 1,p,j,hj,hm,h=>by
  have hr:=gd m p.i
  unfold F6 at h
  have hlen:IK m p.i + 1 - p.i=p.more + 1:=by
   rw [hm]
   have:p.i≤IK m p.i:=by unfold IK; split <;> omega
   omega
  rw [hlen] at h
  split at h
  · rename_i k hk
    cases h
    obtain ⟨q1,q2,q3⟩:=nS hk
    refine ⟨q2,k,by omega,by rw [mJ _ _ _ (by omega),hj],fun x hx=>?_⟩
    rw [mJ _ _ _ (by omega),hj]
    exact q3 x hx
  · rename_i hk
    have hall:∀ x,x≤p.more→(owner.getD (p.i + x) (some 0)).isNone=false:=by
     intro x hx
     have:=HW.mp hk x (EH.mpr (by omega))
     rw [Bool.not_eq_true] at this
     exact this
    obtain ⟨r1,N,r2,r3,r4⟩:=j8 fuel (ig (tm m) p) j rfl rfl h
    refine ⟨r1,p.more + 1 + N,by omega,by rw [bH,gf _ _ _ rfl]; exact r3,fun x hx=>?_⟩
    by_cases hc:x≤p.more
    · rw [mJ _ _ _ hc,hj]
      exact hall x hc
    · obtain ⟨y,rfl⟩:∃ y,x=p.more + 1 + y:=⟨x - (p.more + 1),by omega⟩
      rw [bH,gf _ _ _ rfl]
      exact r4 y (by omega)
def wE (m:Nat) (owner:Array (Option Nat)) (hs:Nat→Option Int):Prop:=∀ j x,owner[j]?=some (some x)→∃ h,hs x=some h∧∃ N,N < 10 * IR m∧pos m h N=j∧∀ y,y < N→(owner.getD (pos m h y) (some 0)).isNone=false∧pos m h y≤m
theorem zL (m:Nat) (h:Int):∀ n,pos m h n≤m:=by
 have key:∀ (n:Nat) (p:Probe),p.i≤m→p.j + p.more≤m→(advN (tm m) n p).j≤m:=by
  intro n
  induction n with
  | zero=>intro p _ h2; show p.j≤m; omega
  | succ n ih =>
   intro p h1 h2
   show (advN (tm m) n ((tm m).advance p)).j≤m
   by_cases hc:0 < p.more
   · rw [iY _ p hc]
     exact ih _ h1 (by show p.j + 1 + (p.more - 1)≤m; omega)
   · rw [iX _ p (by omega)]
     have hl:(Hj m p.i p.perturb).1≤m:=by
      show (p.i * 5 + 1 + p.perturb / 32) % (m + 1)≤m
      exact Gc (HV _ (Hd m))
     refine ih _ hl ?_
     show (Hj m p.i p.perturb).1 + (IK m (Hj m p.i p.perturb).1 - (Hj m p.i p.perturb).1)≤m
     unfold IK
     split <;> omega
 intro n
 have hb:bits h % (m + 1)≤m:=Gc (HV _ (Hd m))
 refine key n _ hb ?_
 show bits h % (m + 1) + (IK m (bits h % (m + 1)) - bits h % (m + 1))≤m
 unfold IK
 split <;> omega
theorem j9 {m:Nat} {hf:Nat→Option Int}:∀ (hs:List Int) (owner o2:Array (Option Nat)) (k k2:Nat),owner.size=m + 1→(∀ i (h:i < hs.length),hf (k + i)=some hs[i])→wE m owner hf→hs.foldl (jZ m) (some (owner,k))=some (o2,k2)→wE m o2 hf
 | [],owner,o2,k,k2,_,_,hP,e=>by cases e; exact hP
 | h :: hs,owner,o2,k,k2,hz,hh,hP,e=>by
  rw [HR] at e
  have hnone:∀ (l:List Int),l.foldl (jZ m) none=none:=fun l=>by
   induction l with
   | nil=>rfl
   | cons a l ih=>exact ih
  have hst:jZ m (some (owner,k)) h=(F6 m owner (IR m) (bits h % (m + 1)) (bits h)).bind (fun j=>some (owner.setIfInBounds j (some k),k + 1)):=rfl
  cases hfr:F6 m owner (IR m) (bits h % (m + 1)) (bits h) with
  | none=>rw [hst,hfr] at e; rw [show (none:Option Nat).bind (fun j=>some (owner.setIfInBounds j (some k),k + 1))=none from rfl,hnone] at e; cases e
  | some j =>
   rw [hst,hfr] at e
   obtain ⟨f1,N,f2,f3,f4⟩:=j8 (m:=m) (owner:=owner) (IR m) ((tm m).probeStart h) j rfl rfl hfr
   obtain ⟨g1,g2⟩:=getD_none f1
   refine j9 hs (owner.setIfInBounds j (some k)) o2 (k + 1) k2 (by rw [J0]; exact hz) (fun i hi=>by
    have:=hh (i + 1) (by simpa using hi)
    rw [show k + 1 + i=k + (i + 1) by omega]
    simpa using this) ?_ e
   have keep:∀ x,(owner.getD x (some 0)).isNone=false→((owner.setIfInBounds j (some k)).getD x (some 0)).isNone=false:=by
    intro x hx
    rw [Fd] at hx ⊢
    rw [Jc]
    split
    · first
       | rfl
       | (split <;> rfl)
    · exact hx
   intro j' x hx
   rw [Jc] at hx
   split at hx
   · rename_i hjj
     subst hjj
     have hx:(some (some k):Option (Option Nat))=some (some x):=by
      first
       | exact hx
       | (rw [if_pos g1] at hx; exact hx)
     cases hx
     have h0:=hh 0 (by simp)
     refine ⟨h,by simpa using h0,N,f2,f3,fun y hy=>⟨keep _ (f4 y hy),zL m h y⟩⟩
   · obtain ⟨h',a1,N',a2,a3,a4⟩:=hP j' x hx
     exact ⟨h',a1,N',a2,a3,fun y hy=>⟨keep _ (a4 y hy).1,(a4 y hy).2⟩⟩
theorem i7 {m:Nat} (hs:Array Int) {o2:Array (Option Nat)} (e:MO m hs=some o2):wE m o2 fun i=>hs[i]?:=by
 unfold MO at e
 rw [← LP] at e
 have e1:(List.foldl (fun acc h=>do
  let (owner,k) ← acc
  let j ← F6 m owner (IR m) (bits h % (m + 1)) (bits h)
  pure (owner.setIfInBounds j (some k),k + 1)) (some (GM (m + 1) none,0)) hs.toList:Option (Array (Option Nat)×Nat))=hs.toList.foldl (jZ m) (some (GM (m + 1) none,0)):=rfl
 rw [e1] at e
 cases hf:hs.toList.foldl (jZ m) (some (GM (m + 1) none,0)) with
 | none=>rw [hf] at e; cases e
 | some q =>
  rw [hf] at e
  cases e
  exact j9 hs.toList (GM (m + 1) none) q.1 0 q.2 (by simp) (fun i hi=>by
   have hi':i < hs.size:=by simpa using hi
   simp [hi']) (fun j x hx=>by
    rw [Array.getElem?_replicate] at hx
    split at hx <;> cases hx) hf
theorem qa {m finger moves:Nat} {led plain:Bool} (c:nO m=true) (es:Array (Int×Value)) (hl:es.size≤m) {t:SetTable} {order:Array Nat} (e:laid m finger moves led plain (es.map (·.1))=some (t,order)) :
 Rise t.place∧(∀ je∈asc t (order.filterMap (fun i=>es[i]?)),je.2∈es.toList)∧Pa t (order.filterMap (fun i=>es[i]?)):=by
 obtain ⟨o2,c1,c2,c3⟩:=gg c (es.map (·.1)) (by simpa using hl)
 have hp:=i7 (es.map (·.1)) c1
 unfold laid at e
 rw [c1] at e
 cases e
 have hlive:∀ jk∈(g_ (m + 1)).filterMap fun j=>(o2.getD j none).map (j,·),o2[jk.1]?=some (some jk.2):=by
  intro jk hjk
  obtain ⟨j,hj,q⟩:=GB.mp hjk
  rw [EB] at q
  obtain ⟨x,hx,rfl⟩:=q
  have hj':=EH.mp hj
  rw [Fd] at hx
  cases hg:o2[j]? with
  | none=>rw [hg] at hx; cases hx
  | some y=>rw [hg] at hx; have:y=some x:=hx; rw [← this]
 have hsome:∀ jk∈(g_ (m + 1)).filterMap fun j=>(o2.getD j none).map (j,·),∃ e,es[jk.2]?=some e:=by
  intro jk hjk
  obtain ⟨h,h1,_⟩:=hp _ _ (hlive jk hjk)
  dsimp only at h1
  rw [GD,EB] at h1
  obtain ⟨e,he,_⟩:=h1
  exact ⟨e,he⟩
 have hin:∀ y,(o2.getD y (some 0)).isNone=false→y≤m→y∈((g_ (m + 1)).filterMap fun j=>(o2.getD j none).map (j,·)).map (·.1):=by
  intro y hy hle
  have hlt:y < o2.size:=by omega
  rw [Fd,FM hlt] at hy
  cases hv:o2[y] with
  | none=>rw [hv] at hy; simp at hy
  | some x =>
   refine m_.mpr ⟨(y,x),GB.mpr ⟨y,EH.mpr (by omega),?_⟩,rfl⟩
   rw [Fd,FM hlt,hv]
   rfl
 generalize hL:((g_ (m + 1)).filterMap fun j=>(o2.getD j none).map (j,·))=L at *
 have hasc:∀ (l:List (Nat×Nat)),(∀ jk∈l,∃ e,es[jk.2]?=some e)→(l.map (·.1)).zip ((l.map (·.2)).filterMap fun i=>es[i]?)=l.filterMap fun jk=>(es[jk.2]?).map (jk.1,·):=by
  intro l
  induction l with
  | nil=>intro _; rfl
  | cons a l ih =>
   intro h
   obtain ⟨e,he⟩:=h a h_
   simp only [t_,GZ,he,LN,Ge]
   rw [ih fun b hb=>h b (k_ _ hb)]
 have easc:asc { mask:=m,place:=(L.map (·.1)).toArray,dummies:=#[],finger:=finger,led:=led,moves:=moves,plain:=plain } (((L.map (·.2)).toArray).filterMap (fun i=>es[i]?))=L.filterMap fun jk=>(es[jk.2]?).map (jk.1,·):=by
  unfold asc
  rw [KH]
  exact hasc L hsome
 refine ⟨?_,fun je hje=>?_,fun je hje=>?_⟩
 · show (L.map (·.1)).toArray.toList.Pairwise (· < ·)
   rw [HG,← hL,FY]
   refine List.Pairwise.filterMap _ (R:=(· < ·)) ?_ Iv
   intro a a' hlt b hb b' hb'
   obtain ⟨x,_,rfl⟩:=EB.mp hb
   obtain ⟨x',_,rfl⟩:=EB.mp hb'
   exact hlt
 · rw [easc] at hje
   obtain ⟨jk,_,q⟩:=GB.mp hje
   obtain ⟨e,he,rfl⟩:=EB.mp q
   exact Fb.mpr (IH he)
 · rw [easc] at hje
   obtain ⟨jk,hjk,q⟩:=GB.mp hje
   obtain ⟨e,he,rfl⟩:=EB.mp q
   obtain ⟨h,h1,N,h2,h3,h4⟩:=hp _ _ (hlive jk hjk)
   dsimp only at h1
   rw [GD,he] at h1
   cases h1
   refine ⟨N,h2,h3,fun x hx=>?_⟩
   show pos m e.1 x∈(L.map (·.1)).toArray.toList
   rw [HG]
   exact hin _ (h4 x hx).1 (h4 x hx).2
theorem mK (m:Nat):∀ (a b i:Nat),it m (a + b) i=it m b (it m a i)
 | 0,b,i=>by rw [Hc]; rfl
 | a + 1,b,i=>by rw [L6]; exact mK m a b (stp m i)
def orb (m:Nat):Nat→Nat→List Nat
 | 0,_=>[]
 | n + 1,i=>i :: orb m n (stp m i)
theorem uV (m:Nat):∀ (n i j:Nat),j∈orb m n i→∃ k,k < n∧it m k i=j
 | 0,_,_,h=>by simp [orb] at h
 | n + 1,i,j,h=>by
  rcases pi.mp h with rfl | h
  · exact ⟨0,by omega,rfl⟩
  · obtain ⟨k,h1,h2⟩:=uV m n _ j h
    exact ⟨k + 1,by omega,h2⟩
theorem wF:((g_ 128).all fun j=>(orb 127 128 0).contains j)=true:=by decide +kernel
theorem sW:it 127 128 0=0:=by decide +kernel
theorem zM:nO 127=true:=by
 have hit:∀ j,j < 128→∃ k,k < 128∧it 127 k 0=j:=fun j hj=>by
  have:=E6.mp wF j (EH.mpr hj)
  exact uV 127 128 0 j (by simpa using this)
 unfold nO
 refine E6.mpr fun i hi=>E6.mpr fun j hj=>Kk.mpr ?_
 obtain ⟨a,ha,ea⟩:=hit i (EH.mp hi)
 obtain ⟨b,hb,eb⟩:=hit j (EH.mp hj)
 by_cases hc:a≤b
 · refine ⟨b - a,EH.mpr (by omega),?_⟩
   rw [← ea,← mK,show a + (b - a)=b by omega,eb]
   simp
 · refine ⟨128 - a + b,EH.mpr (by omega),?_⟩
   rw [← ea,← mK,show a + (128 - a + b)=128 + b by omega,mK,sW,eb]
   simp
theorem uW {t:SetTable} {n:Nat} (T:Tb t n) (hashAt:Nat→Int) (h:Int):∀ (N fuel:Nat) (p:Probe) (i0:Nat),Vp t p→N < fuel→t.slot (advN t N p).j=.live i0→(∀ k,k < N→t.slot (advN t k p).j≠.empty) →
 (∃ m i,m≤N∧t.slot (advN t m p).j=.live i∧t.place[i]?=some (advN t m p).j∧hashAt i=h∧Hu t hashAt h fuel p=some (.candidate (advN t m p).j i (advN t (m + 1) p)))∨hashAt i0≠h
 | N,0,p,i0,v,hf,_,_=>absurd hf (Gs _)
 | N,fuel + 1,p,i0,v,hf,he,hn=>by
  have hne:t.slot p.j≠.empty:=by
   cases N with
   | zero=>rw [show t.slot p.j=.live i0 from he]; intro z; cases z
   | succ N=>exact hn 0 (by omega)
  rcases dr T p.j with h0 | ⟨i,h1,h2⟩
  · exact absurd h0 hne
  · by_cases hh:hashAt i=h
    · refine .inl ⟨0,i,by omega,h1,h2,hh,?_⟩
      unfold Hu
      rw [h1]
      dsimp only
      rw [if_pos (by simpa using hh)]
      rfl
    · have hg:Hu t hashAt h (fuel + 1) p=Hu t hashAt h fuel (t.advance p):=by
       conv=>lhs; unfold Hu
       rw [h1]
       dsimp only
       rw [if_neg (by simpa using hh)]
      cases N with
      | zero =>
       have:i=i0:=by
        have e:t.slot p.j=.live i0:=he
        rw [h1] at e
        cases e; rfl
       subst this
       exact .inr hh
      | succ N =>
       rcases uW T hashAt h N fuel (t.advance p) i0 v.adv (by omega) he (fun k hk=>hn (k + 1) (by omega)) with ⟨m,i',q1,q2,q3,q4,q5⟩ | q
       · exact .inl ⟨m + 1,i',by omega,q2,q3,q4,by rw [hg,q5]; rfl⟩
       · exact .inr q
section
variable {prog:Program} {w:w_} {A:u_} {E:Value→c_→Prop} {s:c_}
theorem lq {S b:Addr} {o:Obj} {es:Array (Int×Value)} {ep:Nat} {t:SetTable} {ks:List (List Str)} {k:List Str} {h:Int} {adding:Bool} {Q:SetFound→c_→Prop} (hu:A.units < cLine)
 (ho:s.heap.get? S=some o) (hd:o.data=.set es ep t) (T:Tb t es.size) (hm:t.mask % 2=1) (hE:Ent prog w s.heap ks es.toList) (hx:TK prog w s.heap k b) (hk:k ∉ ks) :
 ∀ (N fuel:Nat) (st:Option Probe),(∀ p,st=some p→Vp t p)→N < fuel→t.slot (advN t N (st.getD (t.probeStart h))).j=.empty→(∀ m,m < N→t.slot (advN t m (st.getD (t.probeStart h))).j≠.empty)→N < 10 * IR t.mask →
  Q (.free (advN t N (st.getD (t.probeStart h))).j false) s→l_ (s_ prog w) A (GT S (.ref b) h adding fuel st) Q E s:=by
 intro N
 induction N using Nat.strongRecOn with
 | _ N ih =>
  intro fuel st hv hf he hn hN hQ
  cases fuel with
  | zero=>exact absurd hf (Gs _)
  | succ fuel =>
   have hfit:=eL T
   have v:Vp t (st.getD (t.probeStart h)):=by
    cases st with
    | none=>exact ll h
    | some p=>exact hv p rfl
   unfold GT
   refine a_ (FU ho hd hfit ?_)
   dsimp only
   have hgw:t.gaveWay=false:=by unfold Mf; rw [hm]; rfl
   rw [hgw]
   simp only [i_,if_false]
   unfold MN
   rcases uS T _ h N _ (st.getD (t.probeStart h)) v hN he hn with q | ⟨m,i,hmN,q1,q2,q3,q5⟩
   · rw [q]
     dsimp only
     exact d_ hQ
   · rw [q5]
     dsimp only
     have hi:i < es.size:=by
      have:=(Fp.mp q2).1
      rw [T.size] at this
      exact this
     obtain ⟨k',a,hk',ea,ta⟩:=hE es[i] (Fb.mpr (Ma hi))
     have hg:es[i]?=some (es[i].1,.ref a):=by rw [FM hi,← ea]
     have rest:l_ (s_ prog w) A (do
      let some (_,y):=es[i]? | JG "internal:set-entry"
      let equal ← MD [y] (eqBool y (.ref b))
      let (es',_,t') ← setState S
      if (adding && equal)=true then return MP none
      let some same:=t'.sameMemory t.moves t.mask | JG "set.changed-during-lookup:is-the-new-block-at-the-old-address"
      let still ← match (if same then t'.slot (advN t m (st.getD (t.probeStart h))).j else .empty) with
       | .live i'=>match es'[i']? with
        | some (_,y')=>do pure (if ← MG y' y then some i' else none)
        | none=>pure none
       | _=>pure none
      match still with
      | none=>rule "set.search.anew"; GT S (.ref b) h adding fuel none
      | some i'=>if equal then return .there (some i') else GT S (.ref b) h adding fuel (some (advN t (m + 1) (st.getD (t.probeStart h))))) Q E s:=by
      rw [hg]
      dsimp only
      refine a_ (FB (wpAny_eqBool_tuple hu ta hx ?_))
      have hne:decide (k'=k)=false:=decide_eq_false fun z=>hk (z ▸ hk')
      rw [hne]
      refine a_ (FU ho hd hfit ?_)
      dsimp only
      rw [Lf]
      simp only [i_,if_false]
      have hsm:t.sameMemory t.moves t.mask=some true:=by unfold Lq; simp
      rw [hsm]
      dsimp only
      rw [if_pos rfl,q1]
      dsimp only
      rw [hg]
      dsimp only
      have hsame:MG (r_ a) (r_ a)=pure true:=by
       unfold MG
       dsimp only
       rw [if_pos (by simp)]
      rw [hsame]
      refine a_ (a_ (d_ (d_ ?_)))
      rw [if_pos rfl]
      refine ih (N - (m + 1)) (by omega) fuel (some (advN t (m + 1) (st.getD (t.probeStart h)))) (fun p hp=>by cases hp; exact Vp.advN (m + 1) v) (by omega) ?_ ?_ (by omega) (by
       show Q (.free (advN t (N - (m + 1)) (advN t (m + 1) (st.getD (t.probeStart h)))).j false) s
       rw [← bH,show m + 1 + (N - (m + 1))=N by omega]
       exact hQ)
      · show t.slot (advN t (N - (m + 1)) (advN t (m + 1) (st.getD (t.probeStart h)))).j=.empty
        rw [← bH,show m + 1 + (N - (m + 1))=N by omega]
        exact he
      · intro x hx'
        show t.slot (advN t x (advN t (m + 1) (st.getD (t.probeStart h)))).j≠.empty
        rw [← bH]
        exact hn _ (by omega)
     by_cases hled:t.led=true
     · rw [hled]
       simp only [Hl,i_,if_false]
       exact rest
     · have hled':t.led=false:=by simpa using hled
       rw [hled']
       simp only [Hx,if_true]
       refine a_ (uU hx (fun v hv=>?_) ?_)
       · obtain ⟨e,he',rfl⟩:=m_.mp hv
         have hem:e∈es.toList:=by
          have:=Fb.mp he'
          rw [Ms] at this
          exact Fb.mpr this.1
         obtain ⟨k2,a2,_,e2,t2⟩:=hE e hem
         exact ⟨k2,a2,e2,t2⟩
       · simp only [i_,if_false]
         exact rest
theorem nT {S b a0:Addr} {i0:Nat} {o:Obj} {es:Array (Int×Value)} {ep:Nat} {t:SetTable} {ks:List (List Str)} {k:List Str} {Q:SetFound→c_→Prop} (hu:A.units < cLine)
 (ho:s.heap.get? S=some o) (hd:o.data=.set es ep t) (T:Tb t es.size) (hm:t.mask % 2=1) (hE:Ent prog w s.heap ks es.toList) (hx:TK prog w s.heap k b) (hi0:es[i0]?=some (hsh prog w k,.ref a0)) (h0:TK prog w s.heap k a0) :
 ∀ (N fuel:Nat) (st:Option Probe),(∀ p,st=some p→Vp t p)→N < fuel→t.slot (advN t N (st.getD (t.probeStart (hsh prog w k)))).j=.live i0→(∀ m,m < N→t.slot (advN t m (st.getD (t.probeStart (hsh prog w k)))).j≠.empty)→N < 10 * IR t.mask →
  Q (.there none) s→l_ (s_ prog w) A (GT S (.ref b) (hsh prog w k) true fuel st) Q E s:=by
 intro N
 induction N using Nat.strongRecOn with
 | _ N ih =>
  intro fuel st hv hf he hn hN hQ
  cases fuel with
  | zero=>exact absurd hf (Gs _)
  | succ fuel =>
   have hfit:=eL T
   have v:Vp t (st.getD (t.probeStart (hsh prog w k))):=by
    cases st with
    | none=>exact ll (hsh prog w k)
    | some p=>exact hv p rfl
   unfold GT
   refine a_ (FU ho hd hfit ?_)
   dsimp only
   have hgw:t.gaveWay=false:=by unfold Mf; rw [hm]; rfl
   rw [hgw]
   simp only [i_,if_false]
   unfold MN
   rcases uW T _ (hsh prog w k) N _ (st.getD (t.probeStart (hsh prog w k))) i0 v hN he hn with ⟨m,i,hmN,q1,q2,q3,q5⟩ | q
   · rw [q5]
     dsimp only
     have hi:i < es.size:=by
      have:=(Fp.mp q2).1
      rw [T.size] at this
      exact this
     obtain ⟨k',a,hc,hg,ta⟩:∃ k' a,(k'=k∨m < N)∧es[i]?=some (es[i].1,.ref a)∧TK prog w s.heap k' a:=by
      by_cases hii:i=i0
      · subst hii
        refine ⟨k,a0,.inl rfl,?_,h0⟩
        rw [hi0]
        rw [FM hi] at hi0
        rw [EU hi0]
      · obtain ⟨k',a,_,ea,ta⟩:=hE es[i] (Fb.mpr (Ma hi))
        refine ⟨k',a,.inr ?_,by rw [FM hi,← ea],ta⟩
        rcases Nat.lt_or_ge m N with z | z
        · exact z
        · have:m=N:=by omega
          subst this
          rw [q1] at he
          cases he
          exact absurd rfl hii
     have rest:l_ (s_ prog w) A (do
      let some (_,y):=es[i]? | JG "internal:set-entry"
      let equal ← MD [y] (eqBool y (.ref b))
      let (es',_,t') ← setState S
      if (true && equal)=true then return MP none
      let some same:=t'.sameMemory t.moves t.mask | JG "set.changed-during-lookup:is-the-new-block-at-the-old-address"
      let still ← match (if same then t'.slot (advN t m (st.getD (t.probeStart (hsh prog w k)))).j else .empty) with
       | .live i'=>match es'[i']? with
        | some (_,y')=>do pure (if ← MG y' y then some i' else none)
        | none=>pure none
       | _=>pure none
      match still with
      | none=>rule "set.search.anew"; GT S (.ref b) (hsh prog w k) true fuel none
      | some i'=>if equal then return .there (some i') else GT S (.ref b) (hsh prog w k) true fuel (some (advN t (m + 1) (st.getD (t.probeStart (hsh prog w k)))))) Q E s:=by
      rw [hg]
      dsimp only
      refine a_ (FB (wpAny_eqBool_tuple hu ta hx ?_))
      by_cases hkk:k'=k
      · rw [decide_eq_true hkk]
        refine a_ (FU ho hd hfit ?_)
        dsimp only
        rw [Bool.and_true]
        simp only [if_true]
        exact d_ hQ
      have hmN':m < N:=by
       rcases hc with z | z
       · exact absurd z hkk
       · exact z
      rw [decide_eq_false hkk]
      refine a_ (FU ho hd hfit ?_)
      dsimp only
      rw [Lf]
      simp only [i_,if_false]
      have hsm:t.sameMemory t.moves t.mask=some true:=by unfold Lq; simp
      rw [hsm]
      dsimp only
      rw [if_pos rfl,q1]
      dsimp only
      rw [hg]
      dsimp only
      have hsame:MG (r_ a) (r_ a)=pure true:=by
       unfold MG
       dsimp only
       rw [if_pos (by simp)]
      rw [hsame]
      refine a_ (a_ (d_ (d_ ?_)))
      rw [if_pos rfl]
      refine ih (N - (m + 1)) (by omega) fuel (some (advN t (m + 1) (st.getD (t.probeStart (hsh prog w k))))) (fun p hp=>by cases hp; exact Vp.advN (m + 1) v) (by omega) ?_ ?_ (by omega) hQ
      · show t.slot (advN t (N - (m + 1)) (advN t (m + 1) (st.getD (t.probeStart (hsh prog w k))))).j=.live i0
        rw [← bH,show m + 1 + (N - (m + 1))=N by omega]
        exact he
      · intro x hx'
        show t.slot (advN t x (advN t (m + 1) (st.getD (t.probeStart (hsh prog w k))))).j≠.empty
        rw [← bH]
        exact hn _ (by omega)
     by_cases hled:t.led=true
     · rw [hled]
       simp only [Hl,i_,if_false]
       exact rest
     · have hled':t.led=false:=by simpa using hled
       rw [hled']
       simp only [Hx,if_true]
       refine a_ (uU hx (fun v hv=>?_) ?_)
       · obtain ⟨e,he',rfl⟩:=m_.mp hv
         have hem:e∈es.toList:=by
          have:=Fb.mp he'
          rw [Ms] at this
          exact Fb.mpr this.1
         obtain ⟨k2,a2,_,e2,t2⟩:=hE e hem
         exact ⟨k2,a2,e2,t2⟩
       · simp only [i_,if_false]
         exact rest
   · exact absurd (show (es[i0]?.map (·.1)).getD 0=hsh prog w k by rw [hi0]; rfl) q
def SetD (prog:Program) (w:w_) (h:Heap) (S:Addr) (ks:List (List Str)) (n:Nat):Prop :=
 ∃ o es ep t,h.get? S=some o∧o.ExactSet∧o.data=.set es ep t∧es.size=n∧Tb t n∧((t.mask=7∧n≤4)∨(t.mask=31∧n≤18)∨(t.mask=127∧n≤20))∧Ent prog w h ks es.toList∧Rise t.place∧Pa t es∧∀ k∈ks,∃ a,(hsh prog w k,r_ a)∈es.toList∧TK prog w h k a
theorem wG {S b:Addr} {ks:List (List Str)} {n:Nat} {k:List Str} {Q:Bool→c_→Prop} (hu:A.units < cLine) (hS:SetD prog w s.heap S ks n) (hx:TK prog w s.heap k b) (hk:k∈ks)
 (h:Q false s):l_ (s_ prog w) A (Kn S (.ref b) (hsh prog w k)) Q E s:=by
 obtain ⟨o,es,ep,t,ho,hex,hd,hsz,T,hm,hE,R,hP,hA⟩:=hS
 have hfit:=eL T
 have hfit':t.fits es.size=true:=by rw [hsz]; exact hfit
 have hodd:t.mask % 2=1:=by rcases hm with ⟨e,_⟩ | ⟨e,_⟩ | ⟨e,_⟩ <;> rw [e]
 obtain ⟨a0,hmem,h0⟩:=hA k hk
 obtain ⟨i0,hi0,e0⟩:=HH hmem
 have hi1:i0 < es.size:=by simpa using hi0
 have hge:es[i0]?=some (hsh prog w k,r_ a0):=by
  rw [← FZ,n_ hi0,e0]
 have hpl:i0 < t.place.size:=by rw [T.size,← hsz]; exact hi1
 have hma:(t.place[i0],(hsh prog w k,r_ a0))∈asc t es:=by
  unfold asc
  refine Fy (i:=i0) ?_
  rw [List.getElem?_zip_eq_some]
  exact ⟨by simp [hpl],by rw [FZ]; exact hge⟩
 obtain ⟨N,h1,h2,h3⟩:=hP _ hma
 have hmk:t.mask≤127:=by rcases hm with ⟨e,_⟩ | ⟨e,_⟩ | ⟨e,_⟩ <;> omega
 unfold Kn setAddHashedIn
 refine FB (a_ (FU ho hd hfit' ?_))
 dsimp only
 have hbs:byScan (r_ b) es=false:=by unfold byScan; rfl
 rw [hbs]
 simp only [i_,if_false]
 unfold setSearch
 refine a_ (nT (ks:=ks) (a0:=a0) (i0:=i0) hu ho hd (by rw [hsz]; exact T) hodd hE hx hge h0 N 100000 none (fun p hp=>by cases hp) (by unfold IR at h1; omega) ?_ ?_ h1 ?_)
 · show t.slot (advN t N (t.probeStart (hsh prog w k))).j=.live i0
   rw [mH,h2]
   exact j6 R (by rw [FM hpl])
 · intro m hmN
   show t.slot (advN t m (t.probeStart (hsh prog w k))).j≠.empty
   rw [mH]
   exact (ln T R).mpr (h3 m hmN)
 · exact d_ h
theorem gj {n:Nat} (h:n≤20):n≤sizeLine:=by rw [Ht]; omega
theorem wH {S b:Addr} {ks:List (List Str)} {n:Nat} {k:List Str} {Q:Bool→c_→Prop} (hu:A.units < cLine) (hS:SetD prog w s.heap S ks n) (hx:TK prog w s.heap k b) (hk:k ∉ ks) (hn:n + 1≤20)
 (h:∀ h',FJ S s.heap h'→SetD prog w h' S (k :: ks) (n + 1)→Q true { s with heap:=h' }):l_ (s_ prog w) A (Kn S (.ref b) (hsh prog w k)) Q E s:=by
 obtain ⟨o,es,ep,t,ho,hex,hd,hsz,T,hm,hE,R,hP,hA⟩:=hS
 have hfit:=eL T
 have hfit':t.fits es.size=true:=by rw [hsz]; exact hfit
 have hodd:t.mask % 2=1:=by rcases hm with ⟨e,_⟩ | ⟨e,_⟩ | ⟨e,_⟩ <;> rw [e]
 have hroom:n + 1≤t.mask:=by rcases hm with ⟨e,q⟩ | ⟨e,q⟩ | ⟨e,q⟩ <;> omega
 unfold Kn setAddHashedIn
 refine FB (a_ (FU ho hd hfit' ?_))
 dsimp only
 have hbs:byScan (r_ b) es=false:=by unfold byScan; rfl
 rw [hbs]
 simp only [i_,if_false]
 unfold setSearch
 obtain ⟨N,h1,h2,h3⟩:=zI T (ll (t:=t) (hsh prog w k))
 have hmk:t.mask≤127:=by rcases hm with ⟨e,_⟩ | ⟨e,_⟩ | ⟨e,_⟩ <;> omega
 refine a_ (lq (ks:=ks) hu ho hd (by rw [hsz]; exact T) hodd hE hx hk N 100000 none (fun p hp=>by cases hp) (by unfold IR at h1; omega) h2 h3 h1 ?_)
 dsimp only
 refine a_ (FU ho hd hfit' ?_)
 dsimp only
 generalize hjj:(advN t N ((none:Option Probe).getD (t.probeStart (hsh prog w k)))).j=j
 have hje:t.slot j=.empty:=by rw [← hjj]; exact h2
 have hjp:pos t.mask (hsh prog w k) N=j:=by rw [← mH]; exact hjj
 obtain ⟨R2,hpl2,hasc2⟩:=sV T R hsz hje (hsh prog w k,r_ b)
 have hway:Pth t.mask (t.put j).1.place.toList (hsh prog w k) j:=⟨N,h1,hjp,fun x hx=>by
  rw [hpl2]
  refine .inr ((ln T R).mp ?_)
  rw [← mH]
  exact h3 x hx⟩
 have hP2:Pa (t.put j).1 (uk es (t.put j).2 (hsh prog w k,r_ b)):=fun je hje'=>by
  rcases (hasc2 je).mp hje' with rfl | hq
  · exact hway
  · exact (hP je hq).mono fun x hx=>(hpl2 x).mpr (.inr hx)
 have hA2:∀ k'∈k :: ks,∃ a,(hsh prog w k',r_ a)∈(uk es (t.put j).2 (hsh prog w k,r_ b)).toList∧TK prog w s.heap k' a:=by
  intro k' hk'
  have hmm:∀ e,e∈(uk es (t.put j).2 (hsh prog w k,r_ b)).toList↔e∈(es.push (hsh prog w k,r_ b)).toList:=fun e=>(Ku es (t.put j).2 (hsh prog w k,r_ b)).mem_iff
  rcases pi.mp hk' with rfl | hk'
  · exact ⟨b,(hmm _).mpr (by rw [JQ]; simp),hx⟩
  · obtain ⟨a,q1,q2⟩:=hA k' hk'
    exact ⟨a,(hmm _).mpr (by rw [JQ]; exact E7 _ q1),q2⟩
 obtain ⟨P1,P2,P3,P4,P5⟩:=zJ T hroom j
 have go:∀ bv:Bool,l_ (s_ prog w) A (do
  storeSet S (uk es (t.put j).2 (hsh prog w k,.ref b)) (if bv then (t.put j).1 else { (t.put j).1 with plain:=false })
  if (!false && (if bv then (t.put j).1 else { (t.put j).1 with plain:=false }).tooFull)=true then setRelay S (Jr (es.size + 1))
  return true) Q E s:=by
  intro bv
  have T2:∃ t2,(if bv then (t.put j).1 else { (t.put j).1 with plain:=false })=t2∧Tb t2 (n + 1)∧t2.mask=t.mask∧Rise t2.place∧Pa t2 (uk es (t.put j).2 (hsh prog w k,r_ b)):=by
   cases bv with
   | true=>exact ⟨_,rfl,P1,P3,R2,hP2⟩
   | false=>exact ⟨_,rfl,⟨P1.size,P1.dm,P1.cyc,P1.room⟩,P3,R2,hP2⟩
  obtain ⟨t2,e2,T2,M2,R2',hP2'⟩:=T2
  rw [e2]
  have hsz2:(uk es (t.put j).2 (hsh prog w k,r_ b)).size=n + 1:=by
   rw [d5 _ _ _ (by rw [hsz]; exact P2),hsz]
  refine a_ (wpAny_storeSet_of ho hd ?_ (by rw [hsz2]; exact gj hn))
  have hsb:=Gv s.heap S (Js (uk es (t.put j).2 (hsh prog w k,r_ b)) t2)
  have hg:=j5 (es':=uk es (t.put j).2 (hsh prog w k,r_ b)) (t':=t2) ho hd
  have hE2:Ent prog w (s.heap.update S (Js (uk es (t.put j).2 (hsh prog w k,r_ b)) t2)) (k :: ks) (uk es (t.put j).2 (hsh prog w k,r_ b)).toList:=(hE.insert hx).keeps ho hd hsb
  by_cases hf:t2.tooFull=true
  · rw [hf]
    simp only [Hx,Bool.and_self,if_true]
    have hfl:t2.fill * 5 ≥ t2.mask * 3:=by unfold Me at hf; simpa using hf
    rw [pZ T2,M2] at hfl
    have h5:∃ m',sizeAbove (Jr (n + 1)) - 1=m'∧nO m'=true∧n + 1≤m'∧¬ (sizeAbove (Jr (n + 1)) > sizeLine)∧((m'=31∧n + 1≤18)∨(m'=127∧n + 1≤20)):=by
     rcases hm with ⟨e,q⟩ | ⟨e,q⟩ | ⟨e,q⟩
     · rw [e] at hfl
       have h4:n=4:=by omega
       subst h4
       exact ⟨31,by decide,CL,by omega,by rw [Ht]; decide,.inl ⟨rfl,by omega⟩⟩
     · rw [e] at hfl
       have h4:n=18:=by omega
       subst h4
       exact ⟨127,by decide,zM,by omega,by rw [Ht]; decide,.inr ⟨rfl,by omega⟩⟩
     · rw [e] at hfl
       omega
    obtain ⟨m',s1,s2,s3,s4,s5⟩:=h5
    unfold setRelay
    refine a_ (a_ (FU hg rfl (by rw [hsz2]; exact eL T2) ?_))
    dsimp only
    rw [hsz]
    rw [if_neg s4]
    have hrl:t2.relaid ((uk es (t.put j).2 (hsh prog w k,r_ b)).map (·.1)) (Jr (n + 1))=laid m' t2.finger (t2.movedTo m') t2.led t2.plain ((uk es (t.put j).2 (hsh prog w k,r_ b)).map (·.1)):=by
     unfold SetTable.relaid
     rw [s1]
    obtain ⟨t3,order,r1,r2,r3,r4,r5,r6,r7⟩:=wA (finger:=t2.finger) (moves:=t2.movedTo m') (led:=t2.led) (plain:=t2.plain) s2 ((uk es (t.put j).2 (hsh prog w k,r_ b)).map (·.1)) (by rw [GC,hsz2]; omega)
    rw [hrl,r1]
    obtain ⟨L1,L2,L3⟩:=qa s2 (uk es (t.put j).2 (hsh prog w k,r_ b)) (by rw [hsz2]; omega) r1
    rw [GC,hsz2] at r6 r7
    have hperm:(order.filterMap (fun i=>(uk es (t.put j).2 (hsh prog w k,r_ b))[i]?)).toList.Perm (uk es (t.put j).2 (hsh prog w k,r_ b)).toList:=by
     rw [KH]
     refine (r7.filterMap _).trans ?_
     rw [← hsz2,sT]
    have hsz3:(order.filterMap (fun i=>(uk es (t.put j).2 (hsh prog w k,r_ b))[i]?)).size=n + 1:=by
     rw [← Fg,hperm.length_eq,Fg,hsz2]
    show l_ (s_ prog w) A ((if ((order.filterMap (fun i=>(uk es (t.put j).2 (hsh prog w k,r_ b))[i]?)).size != (uk es (t.put j).2 (hsh prog w k,r_ b)).size)=true then (JG "internal:set-table-lost-an-element":Sem _) else pure (order.filterMap (fun i=>(uk es (t.put j).2 (hsh prog w k,r_ b))[i]?),t3)) >>= fun x=>storeSet S x.1 x.2) _ _ _
    rw [if_neg (by rw [hsz3,hsz2]; simp)]
    refine a_ (d_ ?_)
    refine wpAny_storeSet_of hg rfl ?_ (by rw [hsz3]; exact gj hn)
    have hsb2:=Gv (s.heap.update S (Js (uk es (t.put j).2 (hsh prog w k,r_ b)) t2)) S (Js (order.filterMap (fun i=>(uk es (t.put j).2 (hsh prog w k,r_ b))[i]?)) t3)
    refine d_ (h _ (hsb.trans hsb2) ⟨_,_,_,t3,j5 hg rfl,hex,rfl,hsz3,r6,(by rw [r2]; exact .inr s5),?_,L1,L3,fun k' hk'=>?_⟩)
    · have hE3:=hE2.keeps hg rfl hsb2
      exact fun e he=>hE3 e (hperm.mem_iff.mp he)
    · obtain ⟨a,q1,q2⟩:=hA2 k' hk'
      exact ⟨a,hperm.mem_iff.mpr q1,(q2.keeps ho hd hsb).keeps hg rfl hsb2⟩
  · have hf':t2.tooFull=false:=by simpa using hf
    rw [hf']
    simp only [Hx,Lf,i_,if_false]
    have hfl:¬ (t2.fill * 5 ≥ t2.mask * 3):=by unfold Me at hf'; simpa using hf'
    rw [pZ T2,M2] at hfl
    refine d_ (h _ hsb ⟨_,_,_,t2,hg,hex,rfl,hsz2,T2,?_,hE2,R2',hP2',fun k' hk'=>let ⟨a,q1,q2⟩:=hA2 k' hk'; ⟨a,q1,q2.keeps ho hd hsb⟩⟩)
    rw [M2]
    rcases hm with ⟨e,q⟩ | ⟨e,q⟩ | ⟨e,q⟩
    · exact .inl ⟨e,by omega⟩
    · exact .inr (.inl ⟨e,by omega⟩)
    · exact .inr (.inr ⟨e,hn⟩)
 cases hpl:(t.put j).1.plain with
 | true =>
  simp only [if_true]
  refine a_ (lm hx fun bv=>?_)
  exact go bv
 | false =>
  simp only [i_,if_false]
  refine a_ (d_ ?_)
  exact go true
end
end ST
namespace ST
open PySem PySem.SetTable PyProof.Rows
def nU {α:Type} [DecidableEq α] (acc:List α) (k:α):List α:=if k∈acc then acc else k :: acc
def ddk {α:Type} [DecidableEq α] (ks:List α):List α:=ks.foldl nU []
theorem sX {α:Type} [DecidableEq α] (acc:List α) (k:α):(nU acc k).length≤acc.length + 1:=by unfold nU; split <;> simp
theorem cH {α:Type} [DecidableEq α]:∀ (ks acc:List α),(ks.foldl nU acc).length≤acc.length + ks.length
 | [],acc=>j_ _
 | k :: ks,acc=>by
  have h1:=cH ks (nU acc k)
  have h2:=sX acc k
  rw [HR,EG]
  omega
theorem ddk_le {α:Type} [DecidableEq α] (ks:List α):(ddk ks).length≤ks.length:=by
 have:=cH ks []
 unfold ddk
 simpa using this
theorem fu {α:Type} [DecidableEq α]:∀ (ks acc:List α),(ks.foldl nU acc).length=acc.length + ks.length↔(ks.Nodup∧∀ k∈ks,k ∉ acc)
 | [],acc=>by simp
 | k :: ks,acc=>by
  rw [HR,EG]
  by_cases h:k∈acc
  · have h1:=cH ks acc
    have e:nU acc k=acc:=by unfold nU; rw [if_pos h]
    rw [e]
    constructor
    · intro q; omega
    · intro q; exact absurd h (q.2 k h_)
  · have e:nU acc k=k :: acc:=by unfold nU; rw [if_neg h]
    have ih:=fu ks (k :: acc)
    rw [e]
    rw [EG] at ih
    rw [show acc.length + (ks.length + 1)=acc.length + 1 + ks.length by omega,ih,Gf]
    constructor
    · rintro ⟨h1,h2⟩
      refine ⟨⟨fun hm=>h2 k hm h_,h1⟩,fun x hx=>?_⟩
      rcases pi.mp hx with rfl | hx
      · exact h
      · exact fun z=>h2 x hx (k_ _ z)
    · rintro ⟨⟨h1,h2⟩,h3⟩
      refine ⟨h2,fun x hx z=>?_⟩
      rcases pi.mp z with rfl | z
      · exact h1 hx
      · exact h3 x (k_ _ hx) z
theorem ddk_eq {α:Type} [DecidableEq α] (ks:List α):(ddk ks).length=ks.length↔ks.Nodup:=by
 have:=fu ks []
 unfold ddk
 simpa using this
section
variable {prog:Program} {w:w_} {A:u_} {R:Mh→c_→Prop} {I:Addr} {fp wr:List Addr} {G:Array Jt→Array Jt→Prop} {n:Nat} {P:Nat→Value→Prop} {St:Nat→c_→Prop}
theorem SetD.moved {h h':Heap} {S:Addr} {ks:List (List Str)} {n:Nat} (x:SetD prog w h S ks n) (hS:∀ o,h.get? S=some o→h'.get? S=some o) (hm:∀ k a,TK prog w h k a→TK prog w h' k a):SetD prog w h' S ks n:=by
 obtain ⟨o,es,ep,t,ho,hex,hd,hsz,T,hmk,hE,R,hP,hA⟩:=x
 exact ⟨o,es,ep,t,hS _ ho,hex,hd,hsz,T,hmk,fun e he=>let ⟨k,a,h1,h2,h3⟩:=hE e he; ⟨k,a,h1,h2,hm k a h3⟩,R,hP,fun k hk=>let ⟨a,q1,q2⟩:=hA k hk; ⟨a,q1,hm k a q2⟩⟩
theorem CO (W:WalksS prog w A.in1 I fp wr G n P St) (S:Addr) (hSf:S ∉ fp) (hu:A.in1.units < cLine) (hwr:wr=[I]) (hI:∀ i s,St i s→∃ o vs,s.heap.get? I=some o∧o.data=.fields vs)
 (adr:Nat→Addr) (key:Nat→List Str) (hval:∀ i v,P i v→v=.ref (adr i)) (hn:n≤20) :
 ∀ (k i:Nat) (s:c_),n - i=k→i≤n→St i s→(∀ j,j < n→TK prog w s.heap (key j) (adr j)) →
  SetD prog w s.heap S (ddk ((g_ i).map key)) (ddk ((g_ i).map key)).length →
  (∀ s',Moved (S :: wr) G s s'→SetD prog w s'.heap S (ddk ((g_ n).map key)) (ddk ((g_ n).map key)).length→R (.ok (.ret .none)) s') →
  Jd (s_ prog w) A (.builtin "set.update.loop" ⟨[.ref S,.ref I],[]⟩) R s:=by
 have hSw:S ∉ wr:=fun h=>hSf (W.sub _ h)
 have hsub:∀ b∈wr,b∈S :: wr:=fun b hb=>k_ _ hb
 have notI:∀ {i:Nat} {s:c_} {k:List Str} {a:Addr},St i s→TK prog w s.heap k a→a ∉ wr:=fun {i s k a} hst x hm=>by
  rw [hwr,EE] at hm
  subst hm
  obtain ⟨o',items,n,ho',hc,hd',hi⟩:=x
  obtain ⟨o,vs,ho,hd⟩:=hI _ _ hst
  rw [ho] at ho'
  cases ho'
  rw [hd] at hd'
  cases hd'
 intro k
 induction k with
 | zero =>
  intro i s hk hi hst hT hS hR
  have hin:i=n:=by omega
  subst hin
  refine KM Kc ?_
  rw [K_ G5 _]
  show l_ _ A.in1 (IY (.ref I) >>= _) _ _ s
  refine a_ (W.done s _ _ hst fun s' hm=>?_)
  show l_ _ A.in1 (ret EQ) _ _ s'
  exact d_ (hR s' (hm.mono hsub) (hS.moved (fun o ho=>hm.heap S _ hSw ho) fun k' a x=>x.moved fun o ho=>hm.heap a _ (notI hst x) ho))
 | succ k ih =>
  intro i s hk hi hst hT hS hR
  have hlt:i < n:=by omega
  refine KM Kc ?_
  rw [K_ G5 _]
  show l_ _ A.in1 (IY (.ref I) >>= _) _ _ s
  refine a_ (W.item i s _ _ hlt hst fun v s' hP hst' hm=>?_)
  have hv:=hval i v hP
  subst hv
  have hT':∀ j,j < n→TK prog w s'.heap (key j) (adr j):=fun j hj=>(hT j hj).moved fun o ho=>hm.heap _ _ (notI hst (hT j hj)) ho
  have hS':SetD prog w s'.heap S (ddk ((g_ i).map key)) (ddk ((g_ i).map key)).length:=hS.moved (fun o ho=>hm.heap S _ hSw ho) fun k' a x=>x.moved fun o ho=>hm.heap a _ (notI hst x) ho
  show l_ _ A.in1 (MD [r_ (adr i)] (setAdd S (.ref (adr i))) >>= _) _ _ s'
  refine a_ (FB ?_)
  unfold setAdd
  refine FB ?_
  refine a_ (wpAny_pyHash_tuple hu (hT' i hlt) ?_)
  have estep:ddk ((g_ (i + 1)).map key)=nU (ddk ((g_ i).map key)) (key i):=by
   unfold ddk
   rw [Mz,y_,List.foldl_append]
   rfl
  have hle:(ddk ((g_ i).map key)).length≤i:=by
   have:=ddk_le ((g_ i).map key)
   simpa using this
  by_cases hold:key i∈ddk ((g_ i).map key)
  · refine wG (s:={ s' with toks:=s'.toks + ((key i).length + 1) }) hu hS' (hT' i hlt) hold ?_
    have hS3:SetD prog w s'.heap S (ddk ((g_ (i + 1)).map key)) (ddk ((g_ (i + 1)).map key)).length:=by
     rw [estep]
     unfold nU
     rw [if_pos hold]
     exact hS'
    refine d_ ⟨plainId_quiet G5 _,ih (i + 1) _ (by omega) hlt (W.frame _ s' _ _ hst' (by simp) fun b hb o e=>e) hT' hS3 fun s'' hm'' hS''=>?_⟩
    exact hR s'' (Moved.trans W.gtrans ((hm.mono hsub).then_heap (by simp) fun b o hb e=>e) hm'') hS''
  · refine wH (s:={ s' with toks:=s'.toks + ((key i).length + 1) }) hu hS' (hT' i hlt) hold (by omega) fun h' hsb hS2=>?_
    obtain ⟨oS,esS,epS,tS,hoS,_,hdS,_⟩:=hS'
    have hS3:SetD prog w h' S (ddk ((g_ (i + 1)).map key)) (ddk ((g_ (i + 1)).map key)).length:=by
     rw [estep]
     unfold nU
     rw [if_neg hold]
     exact hS2
    refine d_ ⟨plainId_quiet G5 _,ih (i + 1) _ (by omega) hlt (W.frame _ s' _ _ hst' (by simp) fun b hb o e=>?_) (fun j hj=>(hT' j hj).keeps hoS hdS hsb) hS3 fun s'' hm'' hS''=>?_⟩
    · rw [hsb.2 b (fun h:b=S=>hSf (by rw [← h]; exact hb))]; exact e
    · refine hR s'' (Moved.trans W.gtrans ((hm.mono hsub).then_heap (by simp) fun b o hb e=>?_) hm'') hS''
      rw [hsb.2 b (fun h:b=S=>hb (by rw [h]; exact h_))]; exact e
end
section
variable {prog:Program} {w:w_} {A:u_} {E:Value→c_→Prop} {s:c_}
theorem sY {h:Heap} {S:Addr} {led:Bool} (e:h.get? S=some (nP led)):SetD prog w h S [] 0 :=
 ⟨_,#[],0,_,e,⟨rfl,rfl,rfl⟩,rfl,rfl,⟨rfl,rfl,Ej,EK _⟩,.inl ⟨rfl,by omega⟩,fun e he=>by simp at he,Hs,fun je hje=>(by simp [asc,SetTable.fresh] at hje),fun k hk=>(by simp at hk)⟩
theorem zN {led:Bool} {l:Addr} {items:Array Value} {key:Nat→List Str} {adr:Nat→Addr} {R:Mh→c_→Prop} (hh:A.handled=none) (hu:A.units + 8 < cLine) (hl:s.heap.IsList l items)
 (hk:∀ i,i < items.size→items[i]?=some (.ref (adr i))∧TK prog w s.heap (key i) (adr i)) (hn:items.size≤20)
 (hR:∀ (h':Heap) (tk:Nat),SetD prog w h' s.heap.objs.size (ddk ((g_ items.size).map key)) (ddk ((g_ items.size).map key)).length→(∀ b o,b < s.heap.objs.size→s.heap.get? b=some o→h'.get? b=some o)→R (.ok (.ret .none)) { s with heap:=h',toks:=tk }) :
 Jd (s_ prog w) A (.call (.builtin "set.__init__") ⟨[.ref s.heap.objs.size,.ref l],[]⟩) R { s with heap:=s.heap.push (nP led) }:=by
 have hS:(s.heap.push (nP led)).get? s.heap.objs.size=some (nP led):=o_ _ rfl
 have hT:Ly { s with heap:=s.heap.push (nP led) } (.ref s.heap.objs.size) "set":=⟨_,hS,rfl⟩
 refine codeAny_call_builtin Ha.init.plain F.entry_set_init (check_set_init_1 hT ?_)
 obtain ⟨ol,hol,hcl,nl,hdl⟩:=hl
 obtain ⟨ocls,odict,odata,oslots⟩:=ol
 simp only at hcl hdl
 subst hcl; subst hdl
 have hol':(s.heap.push (nP led)).get? l=some { cls:=.type "list",dict:=odict,data:=.seq items nl,slots:=oslots }:=e_ _ hol
 have s1:=F.sub_list_set
 have s2:=F.sub_list_frozenset
 have s3:(EZ "list" == EZ "dict")=false:=by decide
 have hl1:(s.heap.push (nP led)).IsList l items:=⟨_,hol',rfl,nl,rfl⟩
 unfold JL.«set.__init__» noKeywords My
 generalize hPI:pyIter=PI
 wp_walk
 subst hPI
 refine JE hl1 (a_ (wpAny_runValue ?_))
 have hlS:l < s.heap.objs.size:=q_ hol
 have hneI:l≠(s.heap.push (nP led)).objs.size:=by rw [Fw]; exact z_ (Gb hlS)
 have hSf:s.heap.objs.size ∉ [(s.heap.push (nP led)).objs.size,l]:=by
  rw [Fw]
  simp only [pi,FK,or_false,not_or]
  exact ⟨z_ (Mm _),Jg hlS⟩
 have up:∀ {k:List Str} {a:Addr},TK prog w s.heap k a→TK prog w ((s.heap.push (nP led)).push { cls:=.type "list_iterator",data:=.fields #[.ref l,.int 0 0] }) k a:=fun x=>x.moved fun o e=>e_ _ (e_ _ e)
 refine CO ((Walks.list (by simp [hh]) _ l hneI items).toS) s.heap.objs.size hSf (by show A.units + 1 + 1 < cLine; omega) rfl (fun i s' st=>by
  obtain ⟨⟨o,ho,_,hd⟩,_⟩:=st
  exact ⟨o,_,ho,hd⟩) adr key (fun i v hv=>?_) hn (items.size - 0) 0 _ (by omega) (EK _) ⟨⟨_,o_ _ rfl,rfl,rfl⟩,(hl1.push _)⟩ (fun j hj=>up (hk j hj).2) ?_ ?_
 · have hi:i < items.size:=(Fp.mp hv).1
   have:=(hk i hi).1
   rw [this] at hv
   exact (EU hv).symm
 · exact sY (led:=led) (e_ _ hS)
 · intro s' hm hS'
   obtain ⟨h',g',d',tk',os'⟩:=s'
   have eg:g'=s.gens:=hm.gens
   have ed:d'=s.drawn:=hm.drawn
   have eo:os'=s.os:=hm.os
   subst eg; subst ed; subst eo
   show l_ _ _ _ _ _ _
   refine d_ ?_
   show l_ _ _ (ret EQ) _ _ _
   refine d_ (hR h' tk' hS' fun b o hb e=>?_)
   have hb1:b≠s.heap.objs.size:=z_ hb
   have hb2:b≠(s.heap.push (nP led)).objs.size:=by rw [Fw]; exact z_ (Gb hb)
   exact hm.heap b o (by simp only [pi,FK,or_false,not_or]; exact ⟨hb1,hb2⟩) (e_ _ (e_ _ e))
theorem call_set_U {l:Addr} {items:Array Value} {key:Nat→List Str} {adr:Nat→Addr} {Q:Value→c_→Prop} (hh:A.handled=none) (hu:A.units + 16 < cLine) (hl:s.heap.IsList l items)
 (hk:∀ i,i < items.size→items[i]?=some (.ref (adr i))∧TK prog w s.heap (key i) (adr i)) (hn:items.size≤20)
 (h:∀ (h':Heap) (tk:Nat),SetD prog w h' s.heap.objs.size (ddk ((g_ items.size).map key)) (ddk ((g_ items.size).map key)).length→(∀ b o,b < s.heap.objs.size→s.heap.get? b=some o→h'.get? b=some o)→Q (.ref s.heap.objs.size) { s with heap:=h',toks:=tk }) :
 l_ (s_ prog w) A (call (.type "set") [.ref l]) Q E s:=by
 obtain ⟨c,tl,hmro⟩:=Ha.mro
 have hmade:=Ha.made
 have hsub:=Ha.sub
 refine wpAny_call (codeAny_of_tree ?_)
 show l_ _ _ (callAny (.type "set") _) _ _ _
 refine d_ ⟨Code.quiet_builtin _ (by decide +kernel),KM F.entry_type_call ?_⟩
 rw [Around.under_plain (weight_type_call_type "set" [.ref l] []) rfl]
 have h1:=Ha.notType
 have h2:=Ha.canCreate
 have hct:=F.typeCall_set_1 (.ref l)
 repeat (any_goals (first | assumption | wp_step))
 refine Ii (code_set_new_1 (.ref l) (E:=E) (Q₁:=fun obj s₁=>∃ led:Bool,obj=.ref s.heap.objs.size∧s₁={ s with heap:=s.heap.push (nP led) }) fun led=>⟨led,rfl,rfl⟩) fun r s₁ hr=>?_
 cases r with
 | error e=>exact hr
 | ok fl =>
  cases fl with
  | ret obj =>
   obtain ⟨led,rfl,rfl⟩:=hr
   have hT:Ly { s with heap:=s.heap.push (nP led) } (.ref s.heap.objs.size) "set":=⟨_,o_ _ rfl,rfl⟩
   have hli:=Ha.init.lookup
   have hbi:=Ha.init.bind (.ref s.heap.objs.size)
   repeat (any_goals (first | assumption | wp_step))
   refine Ii (zN (R:=wants (fun r s₂=>r=.none∧∃ h' tk,s₂={ s with heap:=h',toks:=tk }∧SetD prog w h' s.heap.objs.size (ddk ((g_ items.size).map key)) (ddk ((g_ items.size).map key)).length ∧
    (∀ b o,b < s.heap.objs.size→s.heap.get? b=some o→h'.get? b=some o)) E) (by simp [hh]) (by show A.units + 1 + 8 < cLine; omega) hl hk hn fun h' tk q1 q2=>⟨rfl,h',tk,rfl,q1,q2⟩) fun r₂ s₂ hr₂=>?_
   cases r₂ with
   | error e=>exact hr₂
   | ok fl₂ =>
    cases fl₂ with
    | ret r =>
     obtain ⟨rfl,h',tk,rfl,hS',hk'⟩:=hr₂
     repeat (any_goals (first | assumption | wp_step))
     exact h _ _ hS' hk'
    | _=>exact hr₂.elim
  | _=>exact hr.elim
theorem len_U {S:Addr} {ks:List (List Str)} {n:Nat} {Q:Value→c_→Prop} (hS:SetD prog w s.heap S ks n) (hn:n≤20) (h:∀ t tk,Q (.int n t) { s with toks:=tk }):l_ (s_ prog w) A (call (.builtin "len") [.ref S]) Q E s:=by
 obtain ⟨o,es,ep,t,ho,hex,hd,hsz,T,hm,hE,_⟩:=hS
 subst hsz
 exact call_len_set ho hex hd (eL T) (Int.lt_of_le_of_lt (show ((es.size:Nat):Int)≤20 by omega) (by decide)) (h _ _)
end
end ST
namespace FD
open PySem PySem.Spec PyProof.Rows L2
def gk:List Dv→Option (Rs Dv)
 | [.lst ds]=>match gh ds with
  | some ks=>if ks.length≤20 then some (.ok (.int (ST.ddk ks).length)) else none
  | none=>none
 | _=>none
theorem nV {α:Type} (ks:List α) (d:α) (n:Nat) (h:n=ks.length):(g_ n).map (fun i=>ks.getD i d)=ks:=by
 subst h
 apply Iz
 intro i
 by_cases hi:i < ks.length
 · simp [hi]
 · simp [hi]
section
variable {X:Cx} {p p2 pos pos2:Pos} {e:Expr} {ga:FnA}
theorem nW (hu:X.A.units + 64 < cLine) (hc:X.calm=true) (hg:Gl X "len") (hm:X.mg "len"=none) (hg2:Gl X "set") (hm2:X.mg "set"=none) (ha:FA X [e] ga)
 (he:f_ [.Call (.Name "set" p2) [e] [] pos2] X.env=(false,eval (.Call (.Name "set" p2) [e] [] pos2) X.env) :: f_ [] X.env:=by kernel_rfl) (hpl:(EY pos (f_ [] X.env)).any (·.1)=false:=by kernel_rfl)
 (he2:f_ [e] X.env=(false,eval e X.env) :: f_ [] X.env:=by kernel_rfl) (hpl2:(EY pos2 (f_ [] X.env)).any (·.1)=false:=by kernel_rfl) :
 FE X (.Call (.Name "len" p) [.Call (.Name "set" p2) [e] [] pos2] [] pos) (fB1 gk ga):=⟨fun pins s σ H Q I ⟨ρ,E,o⟩=>by
 refine Gx (dP I hg hm MJ ?_ (by decide) (by decide))
 refine IM ?_ he hpl
 rw [he]
 show l_ _ _ (spliced ((false,eval (.Call (.Name "set" p2) [e] [] pos2) X.env) :: EY pos (f_ [] X.env))) _ _ s
 refine Hb ?_
 refine Gx (dP I hg2 hm2 (u:=.type "set") (by decide +kernel) ?_ (by decide) (by decide))
 refine F5 (thn (ha.h pos2 pins s σ H _ I ⟨ρ,E,OutA.bind o fun ds vs H1 e1 rs o1=>(show ∃ ds,Reps X.K H1 ds vs∧Out X H1 (gk ds) Q from ⟨ds,rs,o1⟩)⟩) fun us s1 ⟨vs,H1,I1,r1,ds,rs,o1⟩=>?_) he2 hpl2
 unfold gk at o1
 split at o1
 · rename_i es
   obtain ⟨v,rfl,r⟩:=dU rs
   obtain ⟨l,xs,rfl,hl,rx⟩:=r.lstE
   obtain ⟨u,rfl,ru⟩:=gY r1
   cases (show u=r_ l from ru)
   split at o1
   · rename_i ks hks
     split at o1
     · rename_i hnd
       obtain ⟨z,its,n,rv,hz,eh⟩:=I1.lstM hl
       obtain ⟨q1,q2⟩:=p0 I1 hks rx rv
       have hsz:its.toArray.size=ks.length:=by simp [q1]
       refine ST.call_set_U (items:=its.toArray) (key:=fun i=>ks.getD i []) (adr:=fun i=>match its[i]? with | some (.ref a)=>a | _=>0) (I1.ok.hd hc) (by omega) ⟨_,eh,rfl,n,rfl⟩ (fun i hi=>?_) (by rw [hsz]; exact hnd) fun h' tk hS hkp=>?_
       · obtain ⟨a,e1,e2⟩:=q2 i (by simpa using hi)
         simp only [List.getElem?_toArray,e1]
         exact ⟨trivial,e2⟩
       · refine Im ?_
         rw [nV ks [] _ hsz] at hS
         refine ST.len_U hS (EM (ST.ddk_le ks) hnd) fun t tk2=>⟨.int ((ST.ddk ks).length:Nat),H1,?_,⟨t,rfl⟩,o1 _ H1 (.refl H1) rfl⟩
         exact I1.kept (t':=tk2) fun b u q=>hkp b u (q_ q) q
     · exact o1.elim
   · exact o1.elim
 · exact o1.elim⟩
end
section
variable {prog:Program} {w:w_} {A:u_} {E:Value→c_→Prop} {s:c_}
end
section
variable {prog:Program} {w:w_} {A:u_} {E:Value→c_→Prop} {s:c_}
end
structure ZMt (z TI TO i1 i2 a b:Addr) (i:Nat) (h:Heap):Prop where
 z:IsZip h z TI TO .none
 ti:IsPair h TI (.ref i1) (.ref i2)
 to:∃ p q,IsPair h TO p q
 j1:h.IsTupleIter i1 a i
 j2:h.IsListIter i2 b i
def tC (X:Cx) (i:Nat) (fc:FnE):TS:=fun D σ H=>∃ ρ,Envs X.K H σ ρ∧match fc ρ with
 | none=>False
 | some (.exc c)=>XW X c H
 | some (.ok d)=>∃ ys,d=.lst ys∧∀ H5 p vs,Same H H5→H5 p=none→Reps X.K H5 ys vs→D.nx (σ.set i (some (.ref p))) (upd H5 p (.lst vs))
section
variable {X:Cx} {i:Nat} {st:Stmt} {sts:List Stmt} {f:dC} {fc:FnE}
theorem ka {n:Nat} {cs:List (Str×Nat)} {src:FnA} {b:Dv→Ev→Option Ev} {tst:Option FnB} {fe:FnE} (ρ:Ev) (d:Dv) (h:bI n cs src b tst fe ρ=some (.ok d)):∃ ys,d=.lst ys:=by
 rcases Ct h with ⟨c,e1,e2⟩ | ⟨ds,ys,e1,e2,l1,l2,e3⟩
 · cases e2
 · cases e3; exact ⟨ys,rfl⟩
end
def jD {α:Type} (le:α→α→Bool) (x:α):List α→List α
 | []=>[x]
 | y :: l=>if le x y then x :: y :: l else y :: jD le x l
def av {α:Type} (le:α→α→Bool):List α→List α
 | []=>[]
 | x :: l=>jD le x (av le l)
theorem c8 {α:Type} (le:α→α→Bool) (x:α):∀ l:List α,(jD le x l).Perm (x :: l)
 | []=>.refl _
 | y :: l=>by
  unfold jD
  split
  · exact .refl _
  · exact ((c8 le x l).cons y).trans (MU ..)
theorem aj {α:Type} (le:α→α→Bool):∀ l:List α,(av le l).Perm l
 | []=>.refl _
 | x :: l=>(c8 le x _).trans ((aj le l).cons x)
structure zO {α:Type} (le:α→α→Bool):Prop where
 t:∀ a b,le a b=false→le b a=true
 tr:∀ a b c,le a b=true→le b c=true→le a c=true
 an:∀ a b,le a b=true→le b a=true→a=b
theorem gl {α:Type} {le:α→α→Bool} (o:zO le) (x:α):∀ l:List α,l.Pairwise (fun a b=>le a b=true)→(jD le x l).Pairwise (fun a b=>le a b=true)
 | [],_=>by simp [jD]
 | y :: l,h=>by
  unfold jD
  rw [xy] at h
  split
  · rename_i hc
    rw [xy,xy]
    refine ⟨fun z hz=>?_,h⟩
    rcases pi.mp hz with rfl | hz
    · exact hc
    · exact o.tr _ _ _ hc (h.1 z hz)
  · rename_i hc
    rw [xy]
    refine ⟨fun z hz=>?_,gl o x l h.2⟩
    rcases pi.mp ((c8 le x l).mem_iff.mp hz) with rfl | hz
    · exact o.t _ _ (by simpa using hc)
    · exact h.1 z hz
theorem cK {α:Type} {le:α→α→Bool} (o:zO le):∀ l:List α,(av le l).Pairwise (fun a b=>le a b=true)
 | []=>Hs
 | x :: l=>gl o x _ (cK o l)
theorem dD {α:Type} {le:α→α→Bool} (o:zO le):∀ {l m:List α},l.Perm m→l.Pairwise (fun a b=>le a b=true)→m.Pairwise (fun a b=>le a b=true)→l=m
 | [],m,hp,_,_=>(List.Perm.nil_eq hp)
 | x :: l,[],hp,_,_=>by simpa using hp.length_eq
 | x :: l,y :: m,hp,h1,h2=>by
  rw [xy] at h1 h2
  have e:x=y:=by
   have hx:x∈y :: m:=hp.mem_iff.mp h_
   have hy:y∈x :: l:=hp.mem_iff.mpr h_
   rcases pi.mp hx with e | hx
   · exact e
   · rcases pi.mp hy with e | hy
     · exact e.symm
     · exact o.an _ _ (h1.1 y hy) (h2.1 x hx)
  subst e
  rw [dD o (hp.cons_inv) h1.2 h2.2]
def leI (a b:Int):Bool:=decide (a≤b)
def leS (a b:Str):Bool:=!decide (b.cps.toList < a.cps.toList)
theorem DG:zO leI:=⟨fun a b h=>by simp [leI] at *; omega,fun a b c h h'=>by simp [leI] at *; omega,fun a b h h'=>by simp [leI] at *; omega⟩
theorem ordS:zO leS where
 t:=fun a b h=>by
  simp only [leS,Bool.not_eq_false',decide_eq_true_eq] at h
  simp only [leS,IB,decide_eq_false_iff_not]
  exact fun h'=>Ld _ (LC h h')
 tr:=fun a b c h h'=>by
  simp only [leS,IB,decide_eq_false_iff_not,Lb] at *
  exact List.le_trans h h'
 an:=fun a b h h'=>by
  simp only [leS,IB,decide_eq_false_iff_not,Lb] at *
  have e:a.cps.toList=b.cps.toList:=Mp h h'
  obtain ⟨⟨a⟩⟩:=a; obtain ⟨⟨b⟩⟩:=b
  simp at e
  rw [e]
def cy:List Dv→Option (List Int)
 | []=>some []
 | .int i :: r=>(cy r).map (i :: ·)
 | _=>none
def zP:List Dv→Option (Rs Dv)
 | [.lst ds]=>match cy ds with
  | some ns=>if ns.length < 64 then some (.ok (.lst ((av leI ns).map Dv.int))) else none
  | none=>match aN ds with
   | some ss=>if ss.length < 64 then some (.ok (.lst ((av leS ss).map Dv.str))) else none
   | none=>none
 | _=>none
section
variable {X:Cx} {pins:List (Addr×Obj)} {σ:L2.St} {H:Hp} {s:c_}
theorem mL {K:ck}:∀ {ds:List Dv} {ns:List Int} {ys:List V} {its:List Value},cy ds=some ns→Reps K H ds ys→Vals ys its→Ln its ns
 | [],ns,ys,its,h,r,v=>by
  cases h
  cases (show ys=[] from r)
  cases v
  exact .nil
 | .int i :: ds,ns,ys,its,h,r,v=>by
  obtain ⟨y,us,rfl,r1,r2⟩:∃ v us,ys=v :: us∧Rep K H (.int i) v∧Reps K H ds us:=r
  cases (show y=.int i from r1)
  obtain ⟨k',h1,rfl⟩:=EB.mp (show (cy ds).map (i :: ·)=some ns from h)
  cases v with
  | cons v1 v2 =>
   obtain ⟨t,rfl⟩:=v1
   exact .cons i t (mL h1 r2 v2)
 | .non :: ds,_,_,_,h,_,_=>by cases h
 | .bl _ :: ds,_,_,_,h,_,_=>by cases h
 | .str _ :: ds,_,_,_,h,_,_=>by cases h
 | .tup _ :: ds,_,_,_,h,_,_=>by cases h
 | .lst _ :: ds,_,_,_,h,_,_=>by cases h
 | .scr _ :: ds,_,_,_,h,_,_=>by cases h
 | .exn _ :: ds,_,_,_,h,_,_=>by cases h
theorem mM {K:ck}:∀ {ds:List Dv} {ns:List Str} {ys:List V} {its:List Value},aN ds=some ns→Reps K H ds ys→Vals ys its→StrsAre its ns
 | [],ns,ys,its,h,r,v=>by
  cases h
  cases (show ys=[] from r)
  cases v
  exact .nil
 | .str i :: ds,ns,ys,its,h,r,v=>by
  obtain ⟨y,us,rfl,r1,r2⟩:∃ v us,ys=v :: us∧Rep K H (.str i) v∧Reps K H ds us:=r
  cases (show y=.str i from r1)
  obtain ⟨k',h1,rfl⟩:=EB.mp (show (aN ds).map (i :: ·)=some ns from h)
  cases v with
  | cons v1 v2 =>
   obtain ⟨t,rfl⟩:=v1
   exact .cons i t (mM h1 r2 v2)
 | .non :: ds,_,_,_,h,_,_=>by cases h
 | .bl _ :: ds,_,_,_,h,_,_=>by cases h
 | .int _ :: ds,_,_,_,h,_,_=>by cases h
 | .tup _ :: ds,_,_,_,h,_,_=>by cases h
 | .lst _ :: ds,_,_,_,h,_,_=>by cases h
 | .scr _ :: ds,_,_,_,h,_,_=>by cases h
 | .exn _ :: ds,_,_,_,h,_,_=>by cases h
theorem cZ:∀ {its:List Value} {ns:List Int},Ln its ns→Vals (ns.map V.int) its
 | _,_,.nil=>.nil
 | _,_,.cons n t h=>.cons ⟨t,rfl⟩ (cZ h)
theorem ik:∀ {its:List Value} {ns:List Str},StrsAre its ns→Vals (ns.map V.str) its
 | _,_,.nil=>.nil
 | _,_,.cons n t h=>.cons ⟨t,rfl⟩ (ik h)
theorem kc {K:ck} (H:Hp):∀ ns:List Int,Reps K H (ns.map Dv.int) (ns.map V.int)
 | []=>rfl
 | n :: ns=>⟨_,_,rfl,rfl,kc H ns⟩
theorem il {K:ck} (H:Hp):∀ ns:List Str,Reps K H (ns.map Dv.str) (ns.map V.str)
 | []=>rfl
 | n :: ns=>⟨_,_,rfl,rfl,il H ns⟩
theorem kf:∀ (p:Str) (l:List Str),risingS p l=true→(p :: l).Pairwise (fun a b=>leS a b=true)
 | p,[],_=>by simp
 | p,x :: r,h=>by
  have h':(!ltCps x.cps.toList p.cps.toList)=true∧risingS x r=true:=by simpa [risingS] using h
  have ih:=kf x r h'.2
  have hx:leS p x=true:=by
   unfold leS
   rw [← ltCps_eq]
   exact h'.1
  rw [xy]
  refine ⟨fun z hz=>?_,ih⟩
  rw [xy] at ih
  rcases pi.mp hz with rfl | hz
  · exact hx
  · exact ordS.tr _ _ _ hx (ih.1 z hz)
theorem nX (l:List Str) (h:sortedS l=true):l.Pairwise (fun a b=>leS a b=true):=by
 cases l with
 | nil=>exact .nil
 | cons x r=>exact kf x r h
theorem line64 {n:Nat} (h:n < 64):n≤sizeLine:=by
 have:sizeLine=16777216:=by decide
 omega
theorem qb:CallR X (.builtin "sorted") (fun xs H Q=>∃ a ws ds,xs=[.ref a]∧H a=some (.lst ws)∧Reps X.K H ds ws ∧
 ((∃ ns,cy ds=some ns∧ns.length < 64∧∀ l,H l=none→Q (.ref l) (upd H l (.lst ((av leI ns).map V.int)))) ∨
  (∃ ns,aN ds=some ns∧ns.length < 64∧∀ l,H l=none→Q (.ref l) (upd H l (.lst ((av leS ns).map V.str)))))):=by
 intro pins s σ H xs us Q I r h
 obtain ⟨a,ws,ds,rfl,h1,h2,h3⟩:=h
 obtain ⟨u,rfl,ru⟩:=gY r
 cases ru
 obtain ⟨z,its,n,rv,hl,e⟩:=I.lstM h1
 rcases h3 with ⟨ns,hi,hlen,q⟩ | ⟨ns,hi,hlen,q⟩
 · have hI:=mL hi h2 rv
   have hn:=hI.length
   refine sorted_ints ⟨_,e,rfl,n,rfl⟩ hI (by omega) fun out ns' a1 a2 a3=>?_
   have es:ns'=av leI ns:=dD DG (a2.trans (aj leI ns).symm) (a3.imp fun h=>by simpa [leI] using h) (cK DG ns)
   subst es
   obtain ⟨ep,he⟩:=sortedAll_at s.heap its out
   refine ⟨.ref (s.heap.objs.size + 1),_,I.laid (t':=s.toks) (o:=.lst ((av leI ns).map V.int)) (fun b ob q=>sortedAll_old q) (G7 _) ?_,rfl,q _ (I.hok.fresh (G7 _))⟩
   exact ⟨line64 (by rw [Ey,(aj leI ns).length_eq]; exact hlen),out.toList,ep,cZ a1,by simpa [ES] using he⟩
 · have hI:=mM hi h2 rv
   have hn:its.length=ns.length:=by
    have:∀ {vs:List Value} {ss:List Str},StrsAre vs ss→vs.length=ss.length:=fun h=>by
     induction h with
     | nil=>rfl
     | cons _ _ _ ih=>simp [ih]
    exact this hI
   refine sorted_strs ⟨_,e,rfl,n,rfl⟩ hI (by omega) fun out ns' a1 a2 a3=>?_
   have es:ns'=av leS ns:=dD ordS (a2.trans (aj leS ns).symm) (nX _ a3) (cK ordS ns)
   subst es
   obtain ⟨ep,he⟩:=sortedAll_at s.heap its out
   refine ⟨.ref (s.heap.objs.size + 1),_,I.laid (t':=s.toks) (o:=.lst ((av leS ns).map V.str)) (fun b ob q=>sortedAll_old q) (G7 _) ?_,rfl,q _ (I.hok.fresh (G7 _))⟩
   exact ⟨line64 (by rw [Ey,(aj leS ns).length_eq]; exact hlen),out.toList,ep,ik a1,by simpa [ES] using he⟩
end
section
variable {X:Cx} {p pos:Pos} {e:Expr} {es:List Expr} {ga:FnA}
end
section
variable {X:Cx} {p pos:Pos} {e:Expr} {es:List Expr} {ga:FnA}
end
section
variable {X:Cx} {p pos:Pos} {e:Expr} {es:List Expr} {ga:FnA}
end
section
variable {prog:Program} {w:w_} {A:u_} {E:Value→c_→Prop} {s:c_}
theorem sZ {e it l:Addr} {i:Nat} {vs:Array Value} {x old:Value} {Q:Option Value→c_→Prop} (ge:K7 s.heap e it i old) (gi:s.heap.IsTupleIter it l i) (gt:s.heap.IsTuple l vs) (gx:vs[i]?=some x) (ne:e≠it)
 (q:∀ h',IsEnumOut h' e it ((i:Int) + 1) x s.heap.objs.size→h'.IsTupleIter it l (i + 1)→h'.get? s.heap.objs.size=some { cls:=.type "tuple",data:=.seq #[.int i s.toks,x] }→h'.objs.size=s.heap.objs.size + 1 →
   (∀ b o,b≠e→b≠it→s.heap.get? b=some o→h'.get? b=some o)→Q (some (.ref s.heap.objs.size)) { s with heap:=h',toks:=s.toks + 1 }):l_ (s_ prog w) A (IY (.ref e)) Q E s:=by
 obtain ⟨hp,g,d,tk,os⟩:=s
 have ty:Ly ⟨hp,g,d,tk,os⟩ (.ref e) "enumerate":=⟨_,ge,rfl⟩
 unfold IY; refine a_ (HJ (Fj (name:=b_ "__next__") ty Ho (Ft Ho ty Ky ?_ (J9 _))))
 show l_ _ _ (MH (.ref e) 2 >>= _) _ _ _; refine a_ (F3 ge rfl (x:=.ref it) rfl ?_)
 refine a_ (nQ gi gt gx fun hA iA sA=>?_)
 have sA':FJ it hp hA:=sA
 have gA:K7 hA e it i old:=(sA'.2 e ne).trans ge
 show l_ _ _ (MH (.ref e) 3 >>= _) _ _ ⟨hA,g,d,tk,os⟩; refine a_ (F3 gA rfl (x:=IX i) rfl ?_)
 show l_ _ _ (MH (.ref e) 4 >>= _) _ _ ⟨hA,g,d,tk,os⟩; refine a_ (F3 gA rfl (x:=.none) rfl ?_)
 show l_ _ _ (mkInt i >>= _) _ _ ⟨hA,g,d,tk,os⟩; refine a_ (wpAny_mkInt ?_)
 show l_ _ _ (MF (.ref e) 3 (IX ((i:Int) + 1)) >>= _) _ _ ⟨hA,g,d,tk + 1,os⟩; refine a_ (G9 gA (by simp) fun hB gB sB=>?_)
 have sB':FJ e hA hB:=sB
 have gB':K7 hB e it ((i:Int) + 1) old:=gB
 show l_ _ _ (MF (.ref e) 4 .none >>= _) _ _ ⟨hB,g,d,tk + 1,os⟩; refine a_ (G9 gB' (by simp) fun hC gC sC=>?_)
 have sC':FJ e hB hC:=sC
 have gC':K7 hC e it ((i:Int) + 1) old:=gC
 show l_ _ _ (newTuple [.int i tk,x] >>= _) _ _ ⟨hC,g,d,tk + 1,os⟩; refine a_ (KZ ?_)
 obtain ⟨hD,eD⟩:∃ hD,hD=hC.push { cls:=.type "tuple",data:=.seq #[.int i tk,x] }:=⟨_,rfl⟩
 have gD:K7 hD e it ((i:Int) + 1) old:=by rw [eD]; exact e_ _ gC'
 have zC:hC.objs.size=hp.objs.size:=by rw [sC'.1,sB'.1,sA'.1]
 have le:e < hp.objs.size:=q_ ge
 have tD:hD.get? hp.objs.size=some { cls:=.type "tuple",data:=.seq #[.int i tk,x] }:=by rw [eD,← zC]; exact o_ _ rfl
 have zD:hD.objs.size=hp.objs.size + 1:=by rw [eD,Fw,zC]
 have kD:∀ b o,b≠e→b≠it→hp.get? b=some o→hD.get? b=some o:=fun b o be bi gb=>by rw [eD]; exact e_ _ (sC'.extBut b o be (sB'.extBut b o be (sA'.extBut b o bi gb)))
 have iD:hD.IsTupleIter it l (i + 1):=by rw [eD]; exact ((iA.extBut sB'.extBut ne.symm).extBut sC'.extBut ne.symm).at fun o go=>e_ _ go
 show l_ _ _ (HM (.ref e) >>= _) _ _ ⟨hC.push { cls:=.type "tuple",data:=.seq #[.int i tk,x] },g,d,tk + 1,os⟩
 rw [← eD,zC]; refine a_ ?_; unfold HM; refine a_ (F3 gD rfl (x:=.none) rfl (d_ ?_)); simp only [if_true]
 refine a_ (II (a_ (F3 gD rfl (x:=old) rfl (a_ (G9 gD (by simp) fun hE gE sE=>?_)))))
 have sE':FJ e hD hE:=sE
 have gE':K7 hE e it ((i:Int) + 1) x:=gE
 show l_ _ _ (HF (.ref e) (.ref hp.objs.size) >>= _) _ _ ⟨hE,g,d,tk + 1,os⟩; refine a_ ?_; unfold HF
 refine a_ (G9 gE' (by simp) fun hF gF sF=>?_)
 have sF':FJ e hE hF:=sF
 have gF':IsEnumOut hF e it ((i:Int) + 1) x hp.objs.size:=gF
 refine G9 gF' (by simp) fun hG gG sG=>?_
 have sG':FJ e hF hG:=sG
 have up:∀ b o,b≠e→hD.get? b=some o→hG.get? b=some o:=fun b o be gb=>sG'.extBut b o be (sF'.extBut b o be (sE'.extBut b o be gb))
 refine a_ (wpAny_letGo (d_ ⟨_,rfl,d_ (q hG gG (iD.at fun o go=>up _ o ne.symm go) (up _ _ (Jg le) tD) (by rw [sG'.1,sF'.1,sE'.1,zD]) fun b o be bi gb=>up b o be (kD b o be bi gb))⟩))
theorem wI {e it l:Addr} {i:Nat} {vs:Array Value} {old:Value} {Q:Option Value→c_→Prop} (hh:A.handled=none) (ge:K7 s.heap e it i old) (gi:s.heap.IsTupleIter it l i) (gt:s.heap.IsTuple l vs) (gx:vs[i]?=none)
 (q:∀ h',Mv it s.heap h'→Q none { s with heap:=h' }):l_ (s_ prog w) A (IY (.ref e)) Q E s:=by
 have ty:s.TypeIs (.ref e) "enumerate":=⟨_,ge,rfl⟩
 unfold IY; refine a_ (HJ (Fj (name:=b_ "__next__") ty Ho (Ft Ho ty Ky ?_ (J9 _))))
 show l_ _ _ (MH (.ref e) 2 >>= _) _ _ _; refine a_ (F3 ge rfl (x:=.ref it) rfl ?_)
 refine a_ (p8 hh gi gt gx fun h' y ke ky=>?_)
 obtain ⟨o,go,co⟩:=ky
 exact a_ (wpAny_isInstance (T:="StopIteration") (b:=true) ⟨o,go,co⟩ isSubtype_stop (d_ (q _ ke)))
end
theorem wJ (l:Addr) (vs:Array Value) :
 Meets (JL.«enumerate.__new__» ⟨[.type "enumerate",.ref l],[]⟩) (fun _ R s=>s.heap.IsTuple l vs∧R (.ok (.ret (.ref (zq1 s.heap l).objs.size))) { s with heap:=(zq1 s.heap l).push { cls:=.type "enumerate",data:=.fields #[.none,.bool false,.ref s.heap.objs.size,IX 0,.none,.none] } }) :=
 .of_wp fun prog w A R s h=>by
  obtain ⟨hp,g,d,tk,os⟩:=s; obtain ⟨m1,h⟩:=h
  have hsub:=sub_enumerate
  have t1:Heap.IsTuple (Shared.heap ⟨hp,g,d,tk,os⟩) l vs:=m1
  wp_walk
  refine wpAny_stack_any fun st=>d_ ?_
  split
  · rename_i c _ _ _ _ _
    cases (c == EZ "enumerate") <;> (wp_walk using HS t1; exact ⟨_,rfl,h⟩)
  · wp_walk using HS t1; exact ⟨_,rfl,h⟩
section
variable {prog:Program} {w:w_} {A:u_} {E:Value→c_→Prop} {s:c_}
theorem tf {l:Addr} {vs:Array Value} {Q:Value→c_→Prop} (m1:s.heap.IsTuple l vs)
 (q:∀ h',K7 h' (s.heap.objs.size + 1) s.heap.objs.size 0 .none→h'.IsTupleIter s.heap.objs.size l 0→(∀ b o,s.heap.get? b=some o→h'.get? b=some o)→Q (.ref (s.heap.objs.size + 1)) { s with heap:=h' }) :
 l_ (s_ prog w) A (call (.type "enumerate") [.ref l]) Q E s:=by
 have n1:(zq1 s.heap l).objs.size=s.heap.objs.size + 1:=Fw ..
 refine callType_new F.called_enumerate (by decide) (F.typeCall_enumerate_1 _) (F.newCall_enumerate_1 _) (fun obj=>F.args_object_init_2 obj _) F.entry_enumerate_new (wJ l vs) ⟨m1,?_⟩
 have g2:((zq1 s.heap l).push { cls:=.type "enumerate",data:=.fields #[.none,.bool false,.ref s.heap.objs.size,IX 0,.none,.none] }).get? (zq1 s.heap l).objs.size=some _:=o_ _ rfl
 have g1:((zq1 s.heap l).push { cls:=.type "enumerate",data:=.fields #[.none,.bool false,.ref s.heap.objs.size,IX 0,.none,.none] }).get? s.heap.objs.size=some _:=e_ _ (o_ _ rfl)
 show _∧_
 rw [n1] at g2 ⊢
 exact ⟨⟨_,g2,rfl⟩,q _ g2 ⟨_,g1,rfl,rfl⟩ fun c o g=>e_ _ (e_ _ g)⟩
end
def ItE (K:ck) (a:Addr):It :=
 ⟨fun i H=>∃ xs x,H a=some (.tup xs)∧xs[i]?=some x,fun i H v H'=>∃ p x,v=.ref p∧H p=none∧H'=upd H p (.tup [.int i,x])∧∀ xs,H a=some (.tup xs)→xs[i]?=some x,fun i H=>∃ xs,H a=some (.tup xs)∧xs.length≤i⟩
theorem tj {P:Program} {w:w_} {K:ck} {es:List Expr} {k:Nat} {pos:Pos} (a e it:Addr) (hne:e≠it):uA P w K (.Tuple es k pos) (ItE K a) [e,it] e (fun i h=>(∃ old,K7 h e it i old)∧h.IsTupleIter it a i) where
 mem:=by simp
 obj:=fun i h st b hb=>by
  obtain ⟨⟨old,he⟩,o,e2,c,d⟩:=st
  have hb':b=e∨b=it:=by simpa using hb
  rcases hb' with rfl | rfl
  · exact ⟨_,he,fun v z=>by cases z⟩
  · exact ⟨o,e2,fun v z=>by rw [d] at z; cases z⟩
 keep:=fun i h h' st kk=>by
  obtain ⟨⟨old,he⟩,st2⟩:=st
  exact ⟨⟨old,kk e (by simp) _ he⟩,st2.at fun o ee=>kk it (by simp) o ee⟩
 item:=by
  intro X hP hw hK hc i pins s σ H E I hf st hg
  subst hP hw hK
  obtain ⟨xs,x,hq,hx⟩:=hg
  obtain ⟨its,rv,p,hz⟩:=I.tuple (SqT.of hq)
  obtain ⟨u,hu,ru⟩:=rv.get hx
  obtain ⟨⟨old,he⟩,st2⟩:=st
  obtain ⟨f0,f1,f2,f3,f4,f5⟩:=hf e (by simp)
  obtain ⟨g0,g1,g2,g3,g4,g5⟩:=hf it (by simp)
  refine sZ he st2 (show s.heap.IsTuple a its.toArray from p) (x:=u) (by simpa using hu) hne fun h' eo st' tp sz kk=>?_
  refine ⟨_,rfl,wpAny_letOwnedTupleGo_enum eo fun h2 he2 sb2=>?_⟩
  have hp:H s.heap.objs.size=none:=I.hok.fresh (j_ _)
  have elt:e < s.heap.objs.size:=q_ he
  have k2:∀ b o,b ∉ [e,it]→s.heap.get? b=some o→h2.get? b=some o:=fun b o hb q=>sb2.extBut b o (fun z=>hb (by simp [z])) (kk b o (fun z=>hb (by simp [z])) (fun z=>hb (by simp [z])) q)
  have tp2:h2.get? s.heap.objs.size=some { cls:=.type "tuple",data:=.seq #[.int i s.toks,u] }:=sb2.extBut _ _ (Jg elt) tp
  have I1:Inv X pins σ (upd H s.heap.objs.size (.tup [.int i,x])) { s with heap:=h2,toks:=s.toks + 1 }:=by
   have nt:∀ b u,H b=some u→b ∉ [e,it]:=fun b u q z=>by
    have z':b=e∨b=it:=by simpa using z
    rcases z' with rfl | rfl
    · rw [f0] at q; cases q
    · rw [g0] at q; cases q
   refine I.step (g':=s.gens) (d':=s.drawn) (ch:=[e,it]) (fun b hb=>?_) (fun b o _ _ hcb q _=>k2 b o hcb q) (fun b o _ _ hcb q _=>⟨o.slots,k2 b o hcb q⟩) (fun b o hcb q n=>?_) (fun b o hcb q=>⟨o,k2 b o hcb q⟩)
    (fun b ys q=>by rw [am (ak q hp)]; exact q) (fun b o ys q=>by rw [am (ak q hp)]; exact q) (fun b ps q=>⟨#[],by rw [am (ak q hp),q]; simp⟩) (fun m hm=>?_) (fun b u2 q=>?_) I.bare
   · have z':b=e∨b=it:=by simpa using hb
     rcases z' with rfl | rfl
     · exact ⟨f3,f1,f4,f5⟩
     · exact ⟨g3,g1,g4,g5⟩
   · rw [am (z_ (q_ q))]; exact n
   · obtain ⟨o,es',ep,ho,r⟩:=hm
     exact ⟨o,es',ep,k2 _ o (fun z=>by
      have z':X.env.locals=e∨X.env.locals=it:=by simpa using z
      rcases z' with z' | z'
      · exact f1 z'.symm
      · exact g1 z'.symm) ho,r⟩
   · by_cases hb:b=s.heap.objs.size
     · subst hb
       rw [ai] at q
       cases q
       exact ⟨by show 2≤sizeLine; decide,[.int i s.toks,u],.cons ⟨_,rfl⟩ (.cons ru .nil),⟨_,tp2,rfl,_,rfl⟩⟩
     · rw [am hb] at q
       refine (I.hok b u2 q).stay (fun c v hcv qq=>k2 c v ?_ qq) (fun c qq=>by rw [am (ak qq hp)]; exact qq) fun c ys qq=>by rw [am (ak qq hp)]; exact qq
       rcases hcv with rfl | hcv
       · exact nt _ _ q
       · exact nt _ _ hcv
  refine ⟨.ref s.heap.objs.size,_,I1,rfl,⟨_,x,rfl,hp,rfl,fun zs hy=>by rw [hq] at hy; cases hy; exact hx⟩,⟨⟨_,by simpa using he2⟩,?_⟩,fun b hb=>?_⟩
  · exact st'.at fun o q=>sb2.extBut _ _ (GE hne) q
  · have z':b=e∨b=it:=by simpa using hb
    rcases z' with rfl | rfl
    · rw [am (z_ elt)]; exact f0
    · obtain ⟨o,q,_⟩:=id st2
      rw [am (z_ (q_ q))]; exact g0
 done:=by
  intro X hP hw hK hc i pins s σ H E I hf st hg
  subst hP hw hK
  obtain ⟨xs,hq,hx⟩:=hg
  obtain ⟨its,rv,p,hz⟩:=I.tuple (SqT.of hq)
  obtain ⟨⟨old,he⟩,st2⟩:=st
  obtain ⟨g0,g1,g2,g3,g4,g5⟩:=hf it (by simp)
  have hl:=rv.length
  exact wI (I.ok.hd hc) he st2 (show s.heap.IsTuple a its.toArray from p) (by simp; omega) fun h' eb=>⟨rfl,I.turned (t':=s.toks) (fun b o hb e=>eb b o hb e) g0 g1 g3 g4 g5⟩
 self:=fun _ _ _ _ _ st h=>by
  obtain ⟨⟨old,he⟩,_⟩:=st
  exact wpAny_pyIter_enum he h
theorem zQ {K:ck} {H:Hp} {a:Addr} {xs:List V} {ds:List Dv} (h:H a=some (.tup xs)) (r:Reps K H ds xs):WkG K (ItE K a) (dW 0 ds) H where
 go:=fun i H' e hi=>by
  rw [c5] at hi
  have hx:i < xs.length:=by rw [r.length]; exact hi
  exact ⟨xs,xs[i],e _ _ h,by simp [hx]⟩
 stop:=fun H' e=>⟨xs,e _ _ h,by rw [r.length,c5]; exact j_ _⟩
 yld:=fun i H' v H2 e hi y=>by
  obtain ⟨p,x,rfl,hp,rfl,y⟩:=y
  obtain ⟨d,h1,h2⟩:=Reps.get (Reps.mono e _ _ r) (y xs (e _ _ h))
  have q:=jX ds 0 i d h1
  rw [Hc] at q
  exact ⟨aq hp _,_,q,⟨p,_,rfl,ai,⟨.int i,[x],rfl,rfl,x,[],rfl,Rep.mono (aq hp _) _ _ h2,rfl⟩⟩⟩
def nY:List Dv→Option (Rs (List Dv))
 | [.tup ds]=>some (.ok (dW 0 ds))
 | _=>none
theorem wK {X:Cx} {es:List Expr} {k:Nat} {pt p pos:Pos} {l:Expr} {ga:FnA} (hg:Gl X "enumerate") (hm:X.mg "enumerate"=none) (ha:FA X [l] ga) (hs:f_ [l] X.env=[(false,eval l X.env)]:=by kernel_rfl):FIG X (.Tuple es k pt) (.Call (.Name "enumerate" p) [l] [] pos) (fun ρ=>bnd (ga ρ) nY):=by
 constructor
 intro pins s σ H R I h
 obtain ⟨ρ,E,o⟩:=h
 have key:OutA X H (ga ρ) fun vs H'=>∃ ds,Reps X.K H' ds vs∧OutG X H' (nY ds) R:=by
  match hf:ga ρ,o with
  | some (.exc c),o=>exact o
  | some (.ok ds),o=>exact fun vs H' e rs=>⟨ds,rs,OutG.mono e o⟩
 refine Call_ (dP I hg hm (show F9 "enumerate"=some (.type "enumerate") by decide +kernel) (F5 (thn (ha.h pos pins s σ H _ I ⟨ρ,E,key⟩) fun us s1 ⟨vs,H1,I1,r1,ds,rs,q1⟩=>?_) hs rfl))
 unfold nY at q1
 split at q1
 · rename_i xs
   obtain ⟨v,rfl,rv⟩:=dU rs
   obtain ⟨a,ws,rfl,h1,h2⟩:=rv.tupE
   obtain ⟨u,rfl,ru⟩:=gY r1
   cases ru
   obtain ⟨its,rv',pl,hz⟩:=I1.tuple (SqT.of h1)
   refine tf (show s1.heap.IsTuple a its.toArray from pl) fun h' he hit kk=>?_
   refine wpAny_pyIter_enum he ?_
   have I2:Inv X pins σ H1 { s1 with heap:=h' }:=I1.kept (t':=s1.toks) kk
   refine ⟨s1.heap.objs.size + 1,[s1.heap.objs.size + 1,s1.heap.objs.size],_,ItE X.K a,H1,rfl,I2,tj a _ _ (Nat.succ_ne_self _),⟨⟨_,he⟩,hit⟩,fun b hb=>?_,q1 _ H1 (.refl H1) (zQ h1 h2)⟩
   have hb':b=s1.heap.objs.size + 1∨b=s1.heap.objs.size:=by simpa using hb
   rcases hb' with rfl | rfl
   · exact I1.fpOk (G7 _) (I1.hok.fresh (G7 _))
   · exact I1.fpOk (j_ _) (I1.hok.fresh (j_ _))
 · exact q1.elim
theorem uX {tst:Option FnB} {elt:FnE} {cap:Ev}:∀ ds:List Dv,pC tst elt cap ds=jT (gN 0) tst elt cap ds
 | []=>rfl
 | d :: ds=>by
  unfold pC jT
  rw [uX ds]
  rfl
theorem wL (cs:List (Str×Nat)) (src:FnA) (tst:Option FnB) (fe:FnE):ba cs src tst fe=bI 1 cs src (gN 0) tst fe:=by
 funext ρ
 show bnd (src ρ) _=bnd (src ρ) _
 congr 1
 funext ds
 rw [uX]
 rfl
theorem qc {X:Cx} {st:Stmt} {i:Nat} {fc:FnE} (h:PS X st (tC X i fc)) (hl:∀ ρ d,fc ρ=some (.ok d)→∃ ys,d=.lst ys):FS X st (dN i fc):=⟨fun pins s σ H D I ⟨ρ,E,o⟩=>by
 refine h pins s σ H D I ⟨ρ,E,?_⟩
 unfold dN at o
 match hf:fc ρ with
 | none=>rw [hf] at o; exact o.elim
 | some (.exc c)=>rw [hf] at o; exact o
 | some (.ok d) =>
  rw [hf] at o
  obtain ⟨ys,rfl⟩:=hl ρ d hf
  exact ⟨ys,rfl,fun H5 p vs e5 hp rs=>o _ _ (e5.trans (aq hp _)) ((E.mono (e5.trans (aq hp _))).set ⟨p,vs,rfl,ai,Reps.mono (aq hp _) _ _ rs⟩)⟩⟩
end FD
namespace ST
open PySem PySem.SetTable PyProof.Rows
abbrev byT (w:w_):Bool:=w.params.followText "set-order"
def SetS (prog:Program) (w:w_) (h:Heap) (S:Addr) (ks:List Str):Prop :=
 ∃ o es ep t,h.get? S=some o∧o.ExactSet∧o.data=.set es ep t∧t.fits es.size=true∧ks.length≤60∧t.led=(!byT w)∧(es.size≠0→t.plain=false)∧ElemsOf (JU prog w) es.toList∧(∀ e∈es.toList,∃ x t,e.2=.str x t)∧(es.toList.map fun e=>strOf e.2).Perm ks
section
variable {prog:Program} {w:w_} {A:u_} {E:Value→c_→Prop} {s:c_}
end
section
variable {prog:Program} {w:w_} {A:u_} {R:Mh→c_→Prop} {I:Addr} {fp wr:List Addr} {G:Array Jt→Array Jt→Prop} {n:Nat} {P:Nat→Value→Prop} {St:Nat→c_→Prop}
theorem SetS.moved {h h':Heap} {S:Addr} {ks:List Str} (x:SetS prog w h S ks) (hS:∀ o,h.get? S=some o→h'.get? S=some o):SetS prog w h' S ks:=by
 obtain ⟨o,es,ep,t,ho,r⟩:=x
 exact ⟨o,es,ep,t,hS _ ho,r⟩
end
section
variable {prog:Program} {w:w_} {A:u_} {E:Value→c_→Prop} {s:c_}
end
section
variable {prog:Program} {w:w_} {A:u_} {E:Value→c_→Prop}
variable {s:c_}
structure Rd (w:w_) (h:Heap) (S:Addr) (es:Array (Int×Value)) (ep:Nat) (t:SetTable):Prop where
 o:∃ o,h.get? S=some o∧o.ExactSet∧o.data=.set es ep t
 f:t.fits es.size=true
 l:t.led=(!byT w)
 p:es.size≠0→t.plain=false
theorem Rd.moved {h h':Heap} {S:Addr} {es:Array (Int×Value)} {ep:Nat} {t:SetTable} (r:Rd w h S es ep t) (k:∀ o,h.get? S=some o→h'.get? S=some o):Rd w h' S es ep t:=by
 obtain ⟨⟨o,ho,hr⟩,h1,h2,h3⟩:=r
 exact ⟨⟨o,k _ ho,hr⟩,h1,h2,h3⟩
end
section
variable {prog:Program} {w:w_} {A:u_} {E:Value→c_→Prop} {s:c_}
structure Wk (prog:Program) (w:w_) (S I:Addr) (h:Heap) (h':Heap) (es:Array (Int×Value)) (vs:List Value) (fp:List Addr) (St:Nat→Heap→Prop):Prop where
 W:∀ A:u_,A.handled=none→Walks prog w A I fp [I] vs.length (fun i v=>vs[i]?=some v) St
 st:St 0 h'
 pm:vs.Perm (es.toList.map (·.2))
 up:∀ b o,h.get? b=some o→h'.get? b=some o
 nw:h.objs.size≤I
 fp:∀ b∈fp,(b=S∨h.objs.size≤b)∧b < h'.objs.size
end
section
variable {prog:Program} {w:w_} {A:u_} {E:Value→c_→Prop} {s:c_}
theorem SetS.rd {h:Heap} {S:Addr} {ks:List Str} (x:SetS prog w h S ks):∃ es ep t,Rd w h S es ep t∧es.size≤60∧(∀ e∈es.toList,∃ x t,e.2=.str x t)∧(es.toList.map fun e=>strOf e.2).Perm ks:=by
 obtain ⟨o,es,ep,t,ho,hex,hd,hf,hk,hl,hp,hel,hs,hm⟩:=x
 refine ⟨es,ep,t,⟨⟨o,ho,hex,hd⟩,hf,hl,hp⟩,?_,hs,hm⟩
 have:=hm.length_eq
 simp at this
 omega
end
end ST
namespace FD
open PySem PySem.Spec PyProof.Rows L2
section
variable {X:Cx} {p p2 pos pos2:Pos} {e:Expr} {ga:FnA}
end
end FD
namespace TS
open PySem PyProof.Rows
section logic
variable {M:LA} {A:u_} {E:Value→c_→Prop} {J:c_→Prop} {σ α β:Type}
def wpJ (M:LA) (A:u_) (E:Value→c_→Prop) (J:c_→Prop) (m:StateT σ Sem α) (Q:α→σ→Prop) (st:σ):Prop :=
 ∀ s,J s→l_ M A (m.run st) (fun r s'=>J s'∧Q r.1 r.2) E s
theorem aY {a:α} {Q:α→σ→Prop} {st:σ} (h:Q a st):wpJ M A E J (pure a:StateT σ Sem α) Q st:=fun s hs=>by
 rw [KI]
 exact d_ ⟨hs,h⟩
theorem aF {m:StateT σ Sem α} {f:α→StateT σ Sem β} {Q:β→σ→Prop} {st:σ} (h:wpJ M A E J m (fun a st'=>wpJ M A E J (f a) Q st') st):wpJ M A E J (m >>= f) Q st:=fun s hs=>by
 rw [StateT.run_bind]
 exact a_ (EO (h s hs) (fun r s' h'=>h'.2 s' h'.1) fun _ _ e=>e)
theorem kg {m:StateT σ Sem α} {Q Q':α→σ→Prop} {st:σ} (h:wpJ M A E J m Q st) (hq:∀ a st',Q a st'→Q' a st'):wpJ M A E J m Q' st:=fun s hs =>
 EO (h s hs) (fun r _ h'=>⟨h'.1,hq _ _ h'.2⟩) fun _ _ e=>e
theorem nZ {Q:σ→σ→Prop} {st:σ} (h:Q st st):wpJ M A E J (get:StateT σ Sem σ) Q st:=fun s hs=>by
 rw [StateT.run_get]
 exact d_ ⟨hs,h⟩
theorem fH {f:σ→σ} {Q:PUnit→σ→Prop} {st:σ} (h:Q ⟨⟩ (f st)):wpJ M A E J (modify f:StateT σ Sem PUnit) Q st:=fun s hs=>by
 rw [StateT.run_modify]
 exact d_ ⟨hs,h⟩
theorem qd {m:Sem α} {Q:α→σ→Prop} {st:σ} (h:∀ s,J s→l_ M A m (fun a s'=>J s'∧Q a st) E s):wpJ M A E J (liftM m:StateT σ Sem α) Q st:=fun s hs=>by
 show l_ M A ((StateT.lift m:StateT σ Sem α).run st) _ E s
 rw [StateT.run_lift]
 exact a_ (EO (h s hs) (fun a s' h'=>d_ h') fun _ _ e=>e)
theorem zR (f:Nat→β→StateT σ Sem (ForInStep β)) (I:Nat→β→σ→Prop) (Q:β→σ→Prop) (b:Nat)
 (step:∀ i c st,i < b→I i c st→wpJ M A E J (f i c) (fun r st'=>match r with | .done c'=>Q c' st' | .yield c'=>I (i + 1) c' st') st)
 (fin:∀ c st,I b c st→Q c st):∀ (n a:Nat) (c:β) (st:σ),a + n=b→I a c st→wpJ M A E J (M4 (List.range' a n 1) c f) Q st
 | 0,a,c,st,e,h=>by
  rw [List.range'_zero,Le]
  have:a=b:=by omega
  subst this
  exact aY (fin c st h)
 | n + 1,a,c,st,e,h=>by
  rw [List.range'_succ,MB]
  refine aF (kg (step a c st (by omega) h) fun r st' h'=>?_)
  cases r with
  | done c'=>exact aY h'
  | yield c'=>exact zR f I Q b step fin n (a + 1) c' st' (by omega) h'
theorem eM {a b:Nat} {f:Nat→β→StateT σ Sem (ForInStep β)} (I:Nat→β→σ→Prop) {Q:β→σ→Prop} (hab:a≤b)
 (step:∀ i c st,i < b→I i c st→wpJ M A E J (f i c) (fun r st'=>match r with | .done c'=>Q c' st' | .yield c'=>I (i + 1) c' st') st)
 (fin:∀ c st,I b c st→Q c st) {c:β} {st:σ} (h:I a c st):wpJ M A E J (M4 [a:b] c f) Q st:=by
 rw [Std.Legacy.Range.forIn_eq_forIn_range']
 have hsz:([a:b]:Mb).size=b - a:=by simp [Std.Legacy.Range.size]
 show wpJ M A E J (M4 (List.range' a ([a:b]:Mb).size 1) c f) Q st
 rw [hsz]
 exact zR f I Q b step fin (b - a) a c st (by omega) h
end logic
structure Od (blt:Nat→Nat→Bool):Prop where
 ir:∀ a,blt a a=false
 tr:∀ a b c,blt a b=true→blt b c=true→blt a c=true
 nt:∀ a b c,blt a c=true→blt a b=true∨blt b c=true
def Lex (blt:Nat→Nat→Bool) (a b:Nat):Prop:=blt a b=true∨(blt b a=false∧a < b)
section order
variable {blt:Nat→Nat→Bool}
theorem Od.le (O:Od blt) {a b c:Nat} (h1:blt b a=false) (h2:blt c b=false):blt c a=false:=by
 cases h:blt c a with
 | false=>rfl
 | true =>
  rcases O.nt _ b _ h with q | q
  · rw [q] at h2; cases h2
  · rw [q] at h1; cases h1
theorem Od.lt_le (O:Od blt) {a b c:Nat} (h1:blt a b=true) (h2:blt c b=false):blt a c=true:=by
 rcases O.nt _ c _ h1 with q | q
 · exact q
 · rw [q] at h2; cases h2
theorem Od.le_lt (O:Od blt) {a b c:Nat} (h1:blt b a=false) (h2:blt b c=true):blt a c=true:=by
 rcases O.nt _ a _ h2 with q | q
 · rw [q] at h1; cases h1
 · exact q
theorem Od.as (O:Od blt) {a b:Nat} (h:blt a b=true):blt b a=false:=by
 cases h':blt b a with
 | false=>rfl
 | true=>have:=O.tr _ _ _ h h'; rw [O.ir] at this; cases this
theorem Lex.tr (O:Od blt) {a b c:Nat} (h1:Lex blt a b) (h2:Lex blt b c):Lex blt a c:=by
 rcases h1 with h1 | ⟨h1,i1⟩
 · rcases h2 with h2 | ⟨h2,i2⟩
   · exact .inl (O.tr _ _ _ h1 h2)
   · exact .inl (O.lt_le h1 h2)
 · rcases h2 with h2 | ⟨h2,i2⟩
   · exact .inl (O.le_lt h1 h2)
   · exact .inr ⟨O.le h1 h2,by omega⟩
theorem Lex.of_le {a b:Nat} (h:blt b a=false) (i:a < b):Lex blt a b:=.inr ⟨h,i⟩
end order
structure SB (a₀:Array LB) (kd:Kb) (p:Nat→Nat) (st:Ir):Prop where
 sz:(IV st).size=a₀.size
 at':∀ k,k < a₀.size→(IV st)[k]?=a₀[p k]?
 lt:∀ k,k < a₀.size→p k < a₀.size
 inj:∀ a b,a < a₀.size→b < a₀.size→p a=p b→a=b
 kind:kindOf st=kd
 failed:La st=none
 pend:Ka st=#[]
def mir (p:Nat→Nat) (i j k:Nat):Nat:=if i≤k∧k < j then p (i + j - 1 - k) else p k
def bub (p:Nat→Nat) (src dst k:Nat):Nat:=if k=dst then p src else if dst < k∧k≤src then p (k - 1) else p k
section state
variable {a₀:Array LB} {kd:Kb} {p:Nat→Nat} {st:Ir}
theorem SB.mirror (B:SB a₀ kd p st) {i j:Nat} (hj:j≤a₀.size):SB a₀ kd (mir p i j) (setArr st (mirror (IV st) i j ((j - i) / 2))) where
 sz:=(mirror_size _ _ _ _).trans B.sz
 at':=fun k hk=>by
  show (PyProof.Rows.mirror (IV st) i j ((j - i) / 2))[k]?=_
  rw [getElem?_mirror_all (by rw [B.sz]; exact hj)]
  unfold mir
  split
  · exact B.at' _ (by omega)
  · exact B.at' _ hk
 lt:=fun k hk=>by
  unfold mir
  split
  · exact B.lt _ (by omega)
  · exact B.lt _ hk
 inj:=fun a b ha hb e=>by
  unfold mir at e
  split at e <;> split at e
  · have:=B.inj _ _ (by omega) (by omega) e; omega
  · have:=B.inj _ _ (by omega) hb e; omega
  · have:=B.inj _ _ ha (by omega) e; omega
  · exact B.inj _ _ ha hb e
 kind:=B.kind
 failed:=B.failed
 pend:=B.pend
theorem SB.bubble (B:SB a₀ kd p st) {src dst:Nat} (hs:src < a₀.size) (hd:dst≤src):SB a₀ kd (bub p src dst) (setArr st (bubble (IV st) src (src - dst))) where
 sz:=(bubble_size _ _ _).trans B.sz
 at':=fun k hk=>by
  show (PyProof.Rows.bubble (IV st) src (src - dst))[k]?=_
  rw [getElem?_bubble (by rw [B.sz]; exact hs) _ (by omega),show src - (src - dst)=dst by omega]
  unfold bub
  split
  · exact B.at' _ hs
  · split
    · exact B.at' _ (by omega)
    · exact B.at' _ hk
 lt:=fun k hk=>by
  unfold bub
  split
  · exact B.lt _ hs
  · split
    · exact B.lt _ (by omega)
    · exact B.lt _ hk
 inj:=fun a b ha hb e=>by
  unfold bub at e
  repeat' split at e
  all_goals first
   | omega
   | (have:=B.inj _ _ (by omega) (by omega) e; omega)
 kind:=B.kind
 failed:=B.failed
 pend:=B.pend
end state
def Cm (M:LA) (A:u_) (J:c_→Prop) (a₀:Array LB) (kd:Kb) (blt:Nat→Nat→Bool):Prop :=
 ∀ (i j:Nat) (x y:LB) (s:c_) (E':Value→c_→Prop),a₀[i]?=some x→a₀[j]?=some y→J s→l_ M A (keyLt' kd x.1 y.1) (fun b s'=>J s'∧b=blt i j) E' s
section
variable {M:LA} {A:u_} {E:Value→c_→Prop} {J:c_→Prop} {a₀:Array LB} {kd:Kb} {blt:Nat→Nat→Bool} {p:Nat→Nat} {st:Ir}
theorem zS {i j:Nat} {Q:Option Bool→Ir→Prop} (C:Cm M A J a₀ kd blt) (B:SB a₀ kd p st) (hi:i < a₀.size) (hj:j < a₀.size) (h:Q (some (blt (p i) (p j))) st):wpJ M A E J (ltAt' i j) Q st:=by
 have e1:(IV st)[i]?=some (a₀[p i]'(B.lt i hi)):=by rw [B.at' i hi]; simp [B.lt i hi]
 have e2:(IV st)[j]?=some (a₀[p j]'(B.lt j hj)):=by rw [B.at' j hj]; simp [B.lt j hj]
 rw [ltAt'_eq]
 refine aF (nZ ?_)
 show wpJ M A E J (do let x ← elem' (IV st) i; let y ← elem' (IV st) j; lt' x y) Q st
 rw [elem'_eq,elem'_eq,e1,e2]
 refine aF (aY (aF (aY ?_)))
 rw [lt'_eq]
 refine aF (nZ ?_)
 rw [B.kind]
 refine aF (qd fun s hs=>HJ (EO (C (p i) (p j) _ _ s _ (by simp [B.lt i hi]) (by simp [B.lt j hj]) hs) (fun b s' h'=>?_) fun _ _ e=>e))
 obtain ⟨h1,rfl⟩:=h'
 exact ⟨h1,aY h⟩
theorem tq {i j:Nat} {Q:Unit→Ir→Prop} (h:Q () (setArr st (mirror (IV st) i j ((j - i) / 2)))):wpJ M A E J (reverseSlice' i j) Q st:=by
 rw [reverseSlice'_eq]; exact fH h
structure Up (blt:Nat→Nat→Bool) (p:Nat→Nat) (n N:Nat):Prop where
 so:∀ a b,a < b→b < n→Lex blt (p a) (p b)
 lo:∀ a,a < n→p a < n
 re:∀ a,n≤a→a < N→p a=a
theorem Up.next (O:Od blt) {n N:Nat} (U:Up blt p n N) (h1:1≤n) (hn:n < N) (h:blt (p n) (p (n - 1))=false):Up blt p (n + 1) N where
 so:=fun a b hab hb=>by
  by_cases hbn:b < n
  · exact U.so a b hab hbn
  · have hb':b=n:=by omega
    subst hb'
    have last:Lex blt (p (b - 1)) (p b):=.of_le h (by rw [U.re b (j_ _) hn]; exact U.lo _ (by omega))
    by_cases ha:a=b - 1
    · subst ha; exact last
    · exact (U.so a (b - 1) (by omega) (by omega)).tr O last
 lo:=fun a ha=>by
  by_cases han:a < n
  · have:=U.lo a han; omega
  · have:a=n:=by omega
    subst this
    rw [U.re a (j_ _) hn]
    omega
 re:=fun a ha hN=>U.re a (by omega) hN
theorem zT {a nrem:Nat} {Q:AscSt→Ir→Prop} (O:Od blt) (C:Cm M A J a₀ kd blt) (B:SB a₀ kd p st) (ha:1≤a) (han:a≤nrem) (hn:nrem≤a₀.size) (U:Up blt p a a₀.size)
 (h:∀ n,a≤n→n≤nrem→Up blt p n a₀.size→(n=nrem∨blt (p n) (p (n - 1))=true)→Q (none,n) st):wpJ M A E J (ascLoop a nrem) Q st:=by
 unfold ascLoop
 refine eM (I:=fun x c st'=>st'=st∧c=(none,x)∧a≤x∧Up blt p x a₀.size) han ?_ ?_ ⟨rfl,rfl,j_ _,U⟩
 · rintro x c st' hx ⟨rfl,rfl,hax,U'⟩
   dsimp only
   refine aF (zS C B (by omega) (by omega) ?_)
   cases hl:blt (p x) (p (x - 1)) with
   | true =>
    simp only [if_true]
    exact aY (h x hax (by omega) U' (.inr hl))
   | false =>
    simp only [i_,if_false]
    exact aY ⟨rfl,rfl,by omega,U'.next O (by omega) (by omega) hl⟩
 · rintro c st' ⟨rfl,rfl,hax,U'⟩
   exact h nrem hax (j_ _) U' (.inl rfl)
structure Dn (blt:Nat→Nat→Bool) (p:Nat→Nat) (n N:Nat):Prop where
 so:∀ a b,a < b→b < n→Lex blt (p b) (p a)
 lo:∀ a,a < n→p a < n
 re:∀ a,n≤a→a < N→p a=a
structure Dq (blt:Nat→Nat→Bool) (p:Nat→Nat) (c n N:Nat):Prop where
 cn:c < n
 d1:∀ a b,a < b→b < c→Lex blt (p b) (p a)
 d2:∀ a b,a < c→c≤b→b < n→blt (p b) (p a)=true
 d3:∀ a b,c≤a→a < b→b < n→blt (p a) (p b)=false∧blt (p b) (p a)=false∧p a < p b
 lo:∀ a,a < n→p a < n
 re:∀ a,n≤a→a < N→p a=a
theorem Dq.turn {c n N:Nat} (D:Dq blt p c n N):Dn blt (mir p c n) n N where
 so:=fun a b hab hb=>by
  unfold mir
  by_cases hbc:c≤b
  · rw [if_pos ⟨hbc,hb⟩]
    by_cases hac:c≤a
    · rw [if_pos ⟨hac,by omega⟩]
      have:=D.d3 (c + n - 1 - b) (c + n - 1 - a) (by omega) (by omega) (by omega)
      exact .inr ⟨this.2.1,this.2.2⟩
    · rw [if_neg (by omega)]
      exact .inl (D.d2 a _ (by omega) (by omega) (by omega))
  · rw [if_neg (by omega),if_neg (by omega)]
    exact D.d1 a b hab (by omega)
 lo:=fun a ha=>by
  unfold mir
  split
  · exact D.lo _ (by omega)
  · exact D.lo _ ha
 re:=fun a ha hN=>by
  unfold mir
  rw [if_neg (by omega)]
  exact D.re a ha hN
theorem Dq.one {n N:Nat} (D:Dq blt p (n - 1) n N):Dn blt p n N where
 so:=fun a b hab hb=>by
  by_cases hbc:b < n - 1
  · exact D.d1 a b hab hbc
  · exact .inl (D.d2 a b (by omega) (by omega) hb)
 lo:=D.lo
 re:=D.re
theorem Dn.turn {n N:Nat} (D:Dn blt p n N):Up blt (mir p 0 n) n N where
 so:=fun a b hab hb=>by
  unfold mir
  rw [if_pos ⟨EK _,by omega⟩,if_pos ⟨EK _,hb⟩]
  exact D.so _ _ (by omega) (by omega)
 lo:=fun a ha=>by
  unfold mir
  rw [if_pos ⟨EK _,ha⟩]
  exact D.lo _ (by omega)
 re:=fun a ha hN=>by
  unfold mir
  rw [if_neg (by omega)]
  exact D.re a ha hN
theorem Dn.next (O:Od blt) {n N:Nat} (D:Dn blt p n N) (h1:1≤n) (hn:n < N) (h:blt (p n) (p (n - 1))=true):Dq blt p n (n + 1) N where
 cn:=by omega
 d1:=D.so
 d2:=fun a b ha hb hb'=>by
  have:b=n:=by omega
  subst this
  by_cases e:a=b - 1
  · subst e; exact h
  · rcases D.so a (b - 1) (by omega) (by omega) with q | ⟨q,_⟩
    · exact O.tr _ _ _ h q
    · exact O.lt_le h q
 d3:=fun a b ha hab hb=>by omega
 lo:=fun a ha=>by
  by_cases han:a < n
  · have:=D.lo a han; omega
  · have:a=n:=by omega
    subst this
    rw [D.re a (j_ _) hn]
    omega
 re:=fun a ha hN=>D.re a (by omega) hN
theorem Dq.next (O:Od blt) {c n N:Nat} (D:Dq blt p c n N) (hn:n < N) (h1:blt (p n) (p (n - 1))=false) (h2:blt (p (n - 1)) (p n)=false):Dq blt p c (n + 1) N where
 cn:=by have:=D.cn; omega
 d1:=D.d1
 d2:=fun a b ha hb hb'=>by
  by_cases hbn:b < n
  · exact D.d2 a b ha hb hbn
  · have:b=n:=by omega
    subst this
    exact O.le_lt h2 (D.d2 a (b - 1) ha (by have:=D.cn; omega) (by omega))
 d3:=fun a b ha hab hb=>by
  by_cases hbn:b < n
  · exact D.d3 a b ha hab hbn
  · have:b=n:=by omega
    subst this
    have hlt:p a < p b:=by
     have:=D.lo a (by omega)
     rw [D.re b (j_ _) hn]
     exact this
    by_cases e:a=b - 1
    · subst e; exact ⟨h2,h1,hlt⟩
    · obtain ⟨q1,q2,_⟩:=D.d3 a (b - 1) ha (by omega) (by omega)
      exact ⟨O.le h2 q1,O.le q2 h1,hlt⟩
 lo:=fun a ha=>by
  by_cases han:a < n
  · have:=D.lo a han; omega
  · have:a=n:=by omega
    subst this
    rw [D.re a (j_ _) hn]
    omega
 re:=fun a ha hN=>D.re a (by omega) hN
theorem qe {n nrem:Nat} {Q:Option Nat→Ir→Prop} (O:Od blt) (C:Cm M A J a₀ kd blt) (B:SB a₀ kd p st) (h1:1≤n) (hnn:n≤nrem) (hn:nrem≤a₀.size) (D:Dn blt p n a₀.size)
 (h:∀ m p' st',SB a₀ kd p' st'→1≤m→m≤nrem→Up blt p' m a₀.size→Q (some m) st'):wpJ M A E J (tail3 n nrem) Q st:=by
 unfold tail3
 refine aF (tq ?_)
 have B':=B.mirror (i:=0) (j:=n) (by omega)
 exact aF (zT O C B' h1 hnn hn D.turn fun m hm1 hm2 U _=>aY (h m _ _ B' (by omega) hm2 U))
theorem zU {n nrem:Nat} {Q:DescSt→Ir→Prop} (O:Od blt) (C:Cm M A J a₀ kd blt) (B:SB a₀ kd p st) (h1:2≤n) (hnn:n≤nrem) (hn:nrem≤a₀.size) (D:Dq blt p (n - 1) n a₀.size)
 (h:∀ m neq p' st',SB a₀ kd p' st'→n≤m→m≤nrem→neq + 1≤m→Dq blt p' (m - (neq + 1)) m a₀.size→Q (none,m,neq) st'):wpJ M A E J (descLoop n nrem) Q st:=by
 unfold descLoop
 refine eM (I:=fun x c st'=>∃ neq p',c=(none,x,neq)∧SB a₀ kd p' st'∧n≤x∧neq + 1≤x∧Dq blt p' (x - (neq + 1)) x a₀.size) hnn ?_ ?_ ⟨0,p,rfl,B,j_ _,by omega,D⟩
 · rintro x c st' hx ⟨neq,p',rfl,B',hax,hq,D'⟩
   dsimp only
   refine aF (zS C B' (by omega) (by omega) ?_)
   cases hl:blt (p' x) (p' (x - 1)) with
   | true =>
    simp only [if_true]
    by_cases hneq:neq > 0
    · rw [if_pos hneq]
      refine aF (tq (aY ?_))
      have B2:=B'.mirror (i:=x - (neq + 1)) (j:=x) (by omega)
      refine ⟨0,_,rfl,B2,by omega,by omega,?_⟩
      have D2:=D'.turn
      have hc:=D'.cn
      refine D2.next O (by omega) (by omega) ?_
      have e1:mir p' (x - (neq + 1)) x x=p' x:=by unfold mir; rw [if_neg (by omega)]
      have e2:mir p' (x - (neq + 1)) x (x - 1)=p' (x - (neq + 1)):=by unfold mir; rw [if_pos (by omega)]; congr 1; omega
      rw [e1,e2]
      by_cases e:x - (neq + 1)=x - 1
      · rw [e]; exact hl
      · exact O.lt_le hl (D'.d3 (x - (neq + 1)) (x - 1) (j_ _) (by omega) (by omega)).1
    · rw [if_neg hneq]
      have e:neq=0:=by omega
      subst e
      exact aY ⟨0,p',rfl,B',by omega,by omega,D'.one.next O (by omega) (by omega) hl⟩
   | false =>
    simp only [i_,if_false]
    refine aF (zS C B' (by omega) (by omega) ?_)
    cases hg:blt (p' (x - 1)) (p' x) with
    | true =>
     simp only [if_true]
     exact aY (h x neq p' st' B' hax (by omega) hq D')
    | false =>
     simp only [i_,if_false]
     refine aY ⟨neq + 1,p',rfl,B',by omega,by omega,?_⟩
     have:=D'.next O (by omega) hl hg
     rwa [show x + 1 - (neq + 1 + 1)=x - (neq + 1) by omega]
 · rintro c st' ⟨neq,p',rfl,B',hax,hq,D'⟩
   exact h nrem neq p' st' B' hax (j_ _) hq D'
theorem io {n nrem:Nat} {Q:Option Nat→Ir→Prop} (O:Od blt) (C:Cm M A J a₀ kd blt) (B:SB a₀ kd p st) (h1:1≤n) (hnn:n + 1≤nrem) (hn:nrem≤a₀.size) (D:Dq blt p n (n + 1) a₀.size)
 (h:∀ m p' st',SB a₀ kd p' st'→1≤m→m≤nrem→Up blt p' m a₀.size→Q (some m) st'):wpJ M A E J (descPart n nrem) Q st:=by
 unfold descPart
 refine aF (qd fun s hs=>II ⟨hs,?_⟩)
 refine aF (zU O C B (by omega) hnn hn D fun m neq p' st' B' hm1 hm2 hq D'=>?_)
 dsimp only
 by_cases hneq:neq > 0
 · rw [if_pos hneq]
   exact aF (tq (qe O C (B'.mirror (by omega)) (by omega) hm2 hn D'.turn h))
 · rw [if_neg hneq]
   have e:neq=0:=by omega
   subst e
   exact qe O C B' (by omega) hm2 hn D'.one h
theorem wM {nrem:Nat} {Q:Option Nat→Ir→Prop} (O:Od blt) (C:Cm M A J a₀ kd blt) (B:SB a₀ kd p st) (h1:1≤nrem) (hn:nrem≤a₀.size) (hp:∀ k,k < a₀.size→p k=k)
 (h:∀ m p' st',SB a₀ kd p' st'→1≤m→m≤nrem→Up blt p' m a₀.size→Q (some m) st'):wpJ M A E J (countRun' 0 nrem) Q st:=by
 rw [countRun0_eq]
 refine aF (zT O C B (j_ 1) h1 hn ⟨fun a b hab hb=>by omega,fun a ha=>by rw [hp a (by omega)]; exact ha,fun a _ hN=>hp a hN⟩ fun n hn1 hn2 U hor=>?_)
 dsimp only
 by_cases hnn:n=nrem
 · rw [if_pos (by simpa using hnn)]
   exact aY (h n p st B hn1 hn2 U)
 · rw [if_neg (by simpa using hnn)]
   have hlt:blt (p n) (p (n - 1))=true:=hor.resolve_left hnn
   by_cases hgt:n > 1
   · rw [if_pos hgt]
     refine aF (zS C B (by omega) (by omega) ?_)
     cases hr:blt (p 0) (p (n - 1)) with
     | true =>
      simp only [if_true]
      exact aY (h n p st B hn1 hn2 U)
     | false =>
      simp only [i_,if_false]
      have B':=B.mirror (i:=0) (j:=n) (by omega)
      have le0:∀ a,a < n→blt (p a) (p 0)=false:=fun a ha=>by
       by_cases e:a=0
       · subst e; exact O.ir _
       · rcases U.so 0 a (by omega) ha with q | q
         · exact O.as q
         · exact q.1
      have leN:∀ a,a < n→blt (p (n - 1)) (p a)=false:=fun a ha=>by
       by_cases e:a=n - 1
       · subst e; exact O.ir _
       · rcases U.so a (n - 1) (by omega) (by omega) with q | q
         · exact O.as q
         · exact q.1
      have eq:∀ a b,a < n→b < n→blt (p a) (p b)=false:=fun a b ha hb=>O.le (leN b hb) (O.le hr (le0 a ha))
      have D:Dq blt (mir p 0 n) n (n + 1) a₀.size:=by
       have Dm:Dn blt (mir p 0 n) n a₀.size:=⟨fun a b hab hb=>by
        unfold mir
        rw [if_pos ⟨EK _,hb⟩,if_pos ⟨EK _,by omega⟩]
        refine .of_le (eq _ _ (by omega) (by omega)) ?_
        rw [hp _ (by omega),hp _ (by omega)]
        omega,fun a ha=>by
        unfold mir
        rw [if_pos ⟨EK _,ha⟩,hp _ (by omega)]
        omega,fun a ha hN=>by
        unfold mir
        rw [if_neg (by omega),hp _ hN]⟩
       refine Dm.next O (by omega) (by omega) ?_
       have e1:mir p 0 n n=p n:=by unfold mir; rw [if_neg (by omega)]
       have e2:mir p 0 n (n - 1)=p 0:=by unfold mir; rw [if_pos (by omega)]; congr 1; omega
       rw [e1,e2]
       exact O.lt_le hlt (eq 0 (n - 1) (by omega) (by omega))
      exact aF (tq (io O C B' (by omega) (by omega) hn D h))
   · rw [if_neg hgt]
     have hn1':n=1:=by omega
     subst hn1'
     refine io O C B (by omega) (by omega) hn ?_ h
     have Dm:Dn blt p 1 a₀.size:=⟨fun a b hab hb=>by omega,U.lo,U.re⟩
     exact Dm.next O (by omega) (by omega) hlt
theorem CP {n ok:Nat} {Q:Bool→Ir→Prop} (O:Od blt) (C:Cm M A J a₀ kd blt) (B:SB a₀ kd p st) (hok:1≤ok) (hon:ok≤n) (hn:n≤a₀.size) (U:Up blt p ok a₀.size)
 (h:∀ p' st',SB a₀ kd p' st'→Up blt p' n a₀.size→Q true st'):wpJ M A E J (binarySort' 0 n ok) Q st:=by
 rw [binarySort'_eq]
 simp only [Hc]
 rw [show max ok 1=ok by omega]
 refine aF (kg (eM (I:=fun k c st'=>∃ p',c=(none,())∧ok≤k∧SB a₀ kd p' st'∧Up blt p' k a₀.size) (Q:=fun c st'=>∃ p',c=(none,())∧SB a₀ kd p' st'∧Up blt p' n a₀.size) hon ?_ ?_ ⟨p,rfl,j_ _,B,U⟩) ?_)
 · rintro k c st' hk ⟨p',rfl,hok',B',U'⟩
   have hpk:p' k=k:=U'.re k (j_ _) (by omega)
   refine aF (kg (eM (I:=fun x c st''=>st''=st'∧∃ l r,c=(none,l,r)∧l≤r∧r≤k∧r - l≤k - x∧(∀ i,i < l→blt (p' k) (p' i)=false)∧(∀ i,r≤i→i < k→blt (p' k) (p' i)=true))
    (Q:=fun c st''=>st''=st'∧∃ l r,c=(none,l,r)∧l≤k∧(∀ i,i < l→blt (p' k) (p' i)=false)∧(∀ i,l≤i→i < k→blt (p' k) (p' i)=true)) (EK k) ?_ ?_ ⟨rfl,0,k,rfl,by omega,by omega,by omega,fun i hi=>by omega,fun i h1 h2=>by omega⟩) ?_)
   · rintro x c st'' hx ⟨rfl,l,r,rfl,hlr,hrk,hm,hlo,hhi⟩
     dsimp only
     by_cases hge:l ≥ r
     · rw [if_pos hge]
       have:l=r:=by omega
       subst this
       exact aY ⟨rfl,l,l,rfl,hrk,hlo,hhi⟩
     · rw [if_neg hge]
       refine aF (zS C B' (by omega) (by omega) ?_)
       cases hless:blt (p' k) (p' ((l + r) / 2)) with
       | true =>
        simp only [if_true]
        refine aY ⟨rfl,l,(l + r) / 2,rfl,by omega,by omega,by omega,hlo,fun i i1 i2=>?_⟩
        by_cases e:i=(l + r) / 2
        · subst e; exact hless
        · rcases U'.so ((l + r) / 2) i (by omega) i2 with q | q
          · exact O.tr _ _ _ hless q
          · exact O.lt_le hless q.1
       | false =>
        simp only [i_,if_false]
        refine aY ⟨rfl,(l + r) / 2 + 1,r,rfl,by omega,by omega,by omega,fun i i1=>?_,hhi⟩
        by_cases e:i=(l + r) / 2
        · subst e; exact hless
        · rcases U'.so i ((l + r) / 2) (by omega) (by omega) with q | q
          · exact O.le (O.as q) hless
          · exact O.le q.1 hless
   · rintro c st'' ⟨rfl,l,r,rfl,hlr,hrk,hm,hlo,hhi⟩
     have:l=r:=by omega
     subst this
     exact ⟨rfl,l,l,rfl,hrk,hlo,hhi⟩
   · rintro c st'' ⟨rfl,l,r,rfl,hlk,hlo,hhi⟩
     show wpJ M A E J (do moveDown' k l; pure (Jb (none,()))) _ _
     rw [moveDown'_eq]
     refine aF (fH (aY ⟨bub p' k l,rfl,by omega,B'.bubble (by omega) hlk,?_⟩))
     refine ⟨fun a b hab hb=>?_,fun a ha=>?_,fun a ha hN=>?_⟩
     · have c1:bub p' k l l=p' k:=by unfold bub; rw [if_pos rfl]
       have c2:∀ x,l < x→x≤k→bub p' k l x=p' (x - 1):=fun x h1 h2=>by unfold bub; rw [if_neg (by omega),if_pos ⟨h1,h2⟩]
       have c3:∀ x,x < l→bub p' k l x=p' x:=fun x h1=>by unfold bub; rw [if_neg (by omega),if_neg (by omega)]
       by_cases hbl:b=l
       · subst hbl
         rw [c1,c3 a hab]
         exact .of_le (hlo a (by omega)) (by rw [hpk]; exact U'.lo a (by omega))
       · by_cases hbg:l < b
         · rw [c2 b hbg (by omega)]
           by_cases hal:a=l
           · subst hal
             rw [c1]
             exact .inl (hhi (b - 1) (by omega) (by omega))
           · by_cases hag:l < a
             · rw [c2 a hag (by omega)]
               exact U'.so (a - 1) (b - 1) (by omega) (by omega)
             · rw [c3 a (by omega)]
               exact U'.so a (b - 1) (by omega) (by omega)
         · rw [c3 a (by omega),c3 b (by omega)]
           exact U'.so a b hab (by omega)
     · unfold bub
       split
       · rw [hpk]; omega
       · split
         · have:=U'.lo (a - 1) (by omega); omega
         · have:=U'.lo a (by omega); omega
     · unfold bub
       rw [if_neg (by omega),if_neg (by omega)]
       exact U'.re a (by omega) hN
 · rintro c st' ⟨p',rfl,_,B',U'⟩
   exact ⟨p',rfl,B',U'⟩
 · rintro c st' ⟨p',rfl,B',U'⟩
   exact aY (h p' st' B' U')
end
section
variable {M:LA} {A:u_} {E:Value→c_→Prop} {J:c_→Prop} {a₀:Array LB} {kd:Kb} {blt:Nat→Nat→Bool} {p:Nat→Nat} {st:Ir}
structure Bt (a₀:Array LB) (blt:Nat→Nat→Bool) (p:Nat→Nat) (xs:Array LB):Prop where
 sz:xs.size=a₀.size
 at':∀ k,k < a₀.size→xs[k]?=a₀[p k]?
 lt:∀ k,k < a₀.size→p k < a₀.size
 inj:∀ a b,a < a₀.size→b < a₀.size→p a=p b→a=b
 so:∀ a b,a < b→b < a₀.size→Lex blt (p a) (p b)
def Dne (a₀:Array LB) (blt:Nat→Nat→Bool) (st:Ir):Prop:=∃ p,Bt a₀ blt p (IV st)∧La st=none∧Ka st=#[(0,a₀.size,0)]
theorem SB.done (B:SB a₀ kd p st) (U:Up blt p a₀.size a₀.size):Dne a₀ blt (setPending st ((Ka st).push (0,a₀.size,0))) :=
 ⟨p,⟨B.sz,B.at',B.lt,B.inj,U.so⟩,B.failed,by show (Ka st).push _=_; rw [B.pend]; rfl⟩
theorem uY {Q:Unit→Ir→Prop} (O:Od blt) (C:Cm M A J a₀ kd blt) (B:SB a₀ kd p st) (hp:∀ k,k < a₀.size→p k=k) (h2:2≤a₀.size) (h64:a₀.size < 64)
 (h:∀ p' st',Bt a₀ blt p' (IV st')→La st'=none→Q () st'):wpJ M A E J sortRuns' Q st:=by
 rw [sortRuns'_eq]
 refine aF (nZ ?_)
 dsimp only
 have hmr:minRun' a₀.size a₀.size 0=a₀.size:=by
  obtain ⟨f,hf⟩:∃ f,a₀.size=f + 1:=⟨a₀.size - 1,by omega⟩
  have:minRun' (f + 1) a₀.size 0=a₀.size:=by rw [minRun'_succ,if_pos h64]; rfl
  rwa [← hf] at this
 simp only [B.sz,hmr]
 refine aF (kg (eM (I:=fun x c st'=>(x=0∧c=(none,0)∧SB a₀ kd p st')∨(1≤x∧c=(none,a₀.size)∧Dne a₀ blt st')) (Q:=fun c st'=>c=(none,a₀.size)∧Dne a₀ blt st') (EK _) ?_ ?_ (.inl ⟨rfl,rfl,B⟩)) ?_)
 · rintro x c st' hx (⟨rfl,rfl,B'⟩ | ⟨hx1,rfl,D⟩)
   · dsimp only
     rw [if_neg (by omega)]
     simp only [Nat.sub_zero,Nat.min_self,Hc]
     refine aF (wM O C B' (by omega) (j_ _) hp fun m p2 st2 B2 hm1 hm2 U2=>?_)
     dsimp only
     by_cases hlt:m < a₀.size
     · rw [if_pos hlt]
       refine aF (qd fun s hs=>II ⟨hs,?_⟩)
       refine aF (CP O C B2 hm1 hm2 (j_ _) U2 fun p3 st3 B3 U3=>?_)
       simp only [Hl,i_,if_false]
       refine aF (nZ ?_)
       have hb:(Ka st3).back?=none:=by rw [B3.pend]; rfl
       rw [hb]
       dsimp only
       exact aF (fH (aY (.inr ⟨by omega,rfl,B3.done U3⟩)))
     · rw [if_neg hlt]
       have hm:m=a₀.size:=by omega
       subst hm
       refine aF (nZ ?_)
       have hb:(Ka st2).back?=none:=by rw [B2.pend]; rfl
       rw [hb]
       dsimp only
       exact aF (fH (aY (.inr ⟨by omega,rfl,B2.done U2⟩)))
   · dsimp only
     rw [if_pos (j_ _)]
     exact aY ⟨rfl,D⟩
 · rintro c st' (⟨hx,_,_⟩ | ⟨_,hc,D⟩)
   · omega
   · exact ⟨hc,D⟩
 · rintro c st' ⟨rfl,pd,D1,D2,D3⟩
   dsimp only
   refine aF (kg (eM (I:=fun _ c st''=>st''=st'∧c=(none,())) (Q:=fun c st''=>st''=st'∧c=(none,())) (EK _) ?_ (fun _ _ hh=>hh) ⟨rfl,rfl⟩) ?_)
   · rintro x c st'' _ ⟨rfl,rfl⟩
     refine aF (nZ ?_)
     rw [if_pos (by rw [D3]; exact j_ 1)]
     exact aY ⟨rfl,rfl⟩
   · rintro c st'' ⟨rfl,rfl⟩
     exact aY (h pd _ D1 D2)
end
abbrev ef (h:Heap) (a:Addr) (vs:List Value):Heap:=((h.update a (ER fun _=>#[])).push (ES "tuple" vs.toArray 0)).push (ES "list" #[] 0)
section
variable {prog:Program} {w:w_} {A:u_} {E:Value→c_→Prop} {s:c_} {blt:Nat→Nat→Bool} {Kd:Kb→Prop}
def JT (s:c_) (H:Heap):c_→Prop:=fun s'=>∃ tk,s.toks≤tk∧s'={ s with heap:=H,toks:=tk }
theorem zV {a:Addr} {vs:List Value} {n:Nat} {P:Lk→c_→Prop} (ho:s.heap.get? a=some (ES "list" vs.toArray n)) (h64:vs.length < 64) (O:Od blt)
 (hkk:2≤vs.length→∀ s1,JT s (ef s.heap a vs) s1→l_ (s_ prog w) A (keyKind' vs.toArray) (fun k s'=>JT s (ef s.heap a vs) s'∧Kd k) E s1)
 (C:∀ kd,Kd kd→Cm (s_ prog w) A (JT s (ef s.heap a vs)) (JO vs) kd blt)
 (h:∀ (p:Nat→Nat) (out:Array Value) (tk:Nat),out.size=vs.length→(∀ k,k < vs.length→out[k]?=vs[p k]?)→(∀ k,k < vs.length→p k < vs.length)→(∀ x y,x < vs.length→y < vs.length→p x=p y→x=y)→(∀ x y,x < y→y < vs.length→Lex blt (p x) (p y)) →
   P (.done (.ret .none)) { s with heap:=sortedHeap s.heap a vs out,toks:=tk }) :
 l_ (s_ prog w) A (JL.«list.sort» ⟨[.ref a],[]⟩) P E s:=by
 rw [list_sort_plain]
 have ha:a < s.heap.objs.size:=q_ ho
 refine a_ (Iq ho rfl ?_)
 refine a_ (Hk ho rfl ?_ (FD.line64 (by simpa using h64)))
 obtain ⟨e1,ho1⟩:∃ e1,(s.heap.update a (ER fun _=>#[])).get? a=some (ES "list" #[] e1):=⟨_,HQ ho (fun _=>#[])⟩
 refine a_ (JM ho1 rfl ?_)
 refine a_ (KZ ?_ (FD.line64 (by simpa using h64)))
 refine a_ (JR ?_)
 refine FB ?_
 have ho6:(ef s.heap a vs).get? a=some (ES "list" #[] e1):=by
  rw [Gp _ _ _ (by rw [IL,G4]; exact z_ (Gb ha)),Gp _ _ _ (by rw [G4]; exact z_ ha)]
  exact ho1
 show l_ (s_ prog w) A _ P E { s with heap:=ef s.heap a vs }
 dsimp only
 have hsz:vs.toArray.size=vs.length:=by simp
 have pz:(JO vs).size=vs.length:=KF vs
 have pat:∀ k,k < vs.length→(JO vs)[k]?=(vs[k]?).map fun v=>(v,v):=fun k hk=>by
  unfold JO
  simp [hk]
 by_cases h2:vs.toArray.size < 2
 · rw [if_pos h2,if_pos h2]
   refine a_ (d_ ?_)
   rw [KI]
   refine a_ (d_ ?_)
   dsimp only
   refine a_ (JM ho6 rfl ?_)
   refine a_ (Hk ho6 rfl ?_ (hsz2:=by rw [GC]; show (JO vs).size≤_; rw [KF,Ht]; omega))
   simp only [bne_self_eq_false,i_,if_false]
   refine d_ (h id ((JO vs).map Prod.snd) s.toks (by simp [pz]) (fun k hk=>?_) (fun k hk=>hk) (fun x y _ _ e=>e) (fun x y hxy hy=>by rw [hsz] at h2; omega))
   rw [GD,pat k hk]
   simp [hk]
 · rw [if_neg h2,if_neg h2]
   rw [hsz] at h2
   refine a_ (EO (hkk (by omega) { s with heap:=ef s.heap a vs } ⟨s.toks,j_ _,rfl⟩) (fun k s1 hk1=>?_) fun _ _ e=>e)
   obtain ⟨J1,hkd⟩:=hk1
   refine a_ (EO (uY (E:=E) (Q:=fun _ st'=>∃ p',Bt (JO vs) blt p' (IV st')∧La st'=none) (p:=id) O (C k hkd)
    (st:=MS k (vs.toArray.zip vs.toArray) #[] 7 none) ⟨rfl,fun _ _=>rfl,fun _ h=>h,fun _ _ _ _ e=>e,rfl,rfl,rfl⟩ (fun _ _=>rfl) (by rw [pz]; omega) (by rw [pz]; exact h64) (fun p' st' a1 a2=>⟨p',a1,a2⟩) s1 J1) ?_ fun _ _ e=>e)
   rintro ⟨⟨⟩,st'⟩ s' ⟨⟨tk,_,rfl⟩,p',F,hf⟩
   dsimp only
   refine a_ (JM (s:={ s with heap:=ef s.heap a vs,toks:=tk }) ho6 rfl ?_)
   refine a_ (Hk (s:={ s with heap:=ef s.heap a vs,toks:=tk }) ho6 rfl ?_ (hsz2:=by refine EM (HB ((GC ..).trans (F.sz.trans (KF _)))) ?_; rw [Ht]; omega))
   rw [hf]
   simp only [bne_self_eq_false,i_,if_false]
   have Fl:=F.lt
   have Fi:=F.inj
   have Fs:=F.so
   rw [pz] at Fl Fi Fs
   refine d_ (h p' _ tk (by rw [GC,F.sz,pz]) (fun k hk=>?_) Fl Fi Fs)
   rw [GD,F.at' k (by rw [pz]; exact hk),pat _ (Fl k hk)]
   simp [Fl k hk]
end
end TS
namespace TS
open PySem PySem.Spec PyProof.Rows L2
theorem oa (b:Bool) (x y:Value):keyLt' (ME b) x y=(do
 let xs ← Ip x; let ys ← Ip y
 for ((p,q),i) in (xs.toList.zip ys.toList).zipIdx do
  if !(← eqBool p q) then return ← oneLt' (b && i == 0) p q
 return decide (xs.size < ys.size)):=rfl
theorem og (v:Value):firstOfTuple' v=(do
 if (← typeOf v) != .type "tuple" then return none
 return (← Ip v)[0]?):=rfl
def ip (h:Heap) (A:u_) (z:Bool) (p q:Value) (e l:Bool):Prop:=∀ (prog:Program) (w:w_) (E:Value→c_→Prop) (s:c_),s.heap=h →
 (∀ Q:Bool→c_→Prop,Q e s→l_ (s_ prog w) A (eqBool p q) Q E s)∧(∀ (b:Bool) (Q:Bool→c_→Prop),(b=true→z=true)→Q l s→l_ (s_ prog w) A (oneLt' b p q) Q E s)
theorem kh (x:Bool) {M:LA} {A:u_} {E:Value→c_→Prop} {s:c_} {Q:Bool→c_→Prop} (h:Q x s):l_ M A (truthOfDropped (.bool x)) Q E s:=Go h
theorem mN (h0:Heap) (A:u_) (z:Bool) (a b:Str) (t u:Tok):ip h0 A z (.str a t) (.str b u) (decide (a=b)) (decide (a.cps.toList < b.cps.toList)):=fun prog w E s _ =>
 ⟨fun Q h=>wpAny_eqBool_str h,fun b' Q _ h=>by
  cases b' with
  | true=>exact oneLt_str h
  | false =>
   rw [Lm]
   simp only [i_,if_false]
   exact a_ (Lu (kh _ h):l_ (s_ prog w) A (EF .Lt (.str a t) (.str b u)) _ E s)⟩
theorem mO (h0:Heap) (A:u_) (z:Bool) (a b:Int) (t u:Tok):ip h0 A z (.int a t) (.int b u) (a == b) (decide (a < b)):=fun prog w E s _ =>
 ⟨fun Q h=>wpAny_eqBool_int h,fun b' Q _ h=>by
  cases b' with
  | true=>exact oneLt_int h
  | false =>
   rw [Lm]
   simp only [i_,if_false]
   exact a_ (PyProof.Rows.lt_int (kh _ h):l_ (s_ prog w) A (EF .Lt (.int a t) (.int b u)) _ E s)⟩
theorem wN (h0:Heap) (A:u_) (z:Bool) (a b:Bool):ip h0 A z (.bool a) (.bool b) (a == b) (decide (b2i a < b2i b)):=fun prog w E s _ =>
 ⟨fun Q h=>K4 a b prog w E Q h,fun b' Q _ h=>by
  cases b' with
  | true =>
   rw [Lm]
   simp only [if_true]
   refine a_ (wpAny_cRoomFor_byValue rfl ?_)
   refine a_ (wpAny_callSpecialIfBound?_slot (L5 s a) F.slot_bool_lt (call_gives F.slot_bool_lt (L5 s a) F.entry_int_lt (F.args_int_lt_2 _ _) (gives_int_lt_bools a b) ?_))
   exact kh _ h
  | false =>
   rw [Lm]
   simp only [i_,if_false]
   exact a_ (PyProof.Rows.lt_bool (kh _ h):l_ (s_ prog w) A (EF .Lt (.bool a) (.bool b)) _ E s)⟩
def bh:List (Bool×Bool)→Option Bool
 | []=>none
 | (true,_) :: r=>bh r
 | (false,l) :: _=>some l
theorem bV (k l:Bool) (rs:List (Bool×Bool)):(bh ((k,l) :: rs)).getD false=if k=true then (bh rs).getD false else l:=by cases k <;> rfl
inductive i8 (h:Heap) (A:u_):Bool→List (Value×Value)→List (Bool×Bool)→Prop
 | nil {z:Bool}:i8 h A z [] []
 | cons {z:Bool} {p q:Value} {e l:Bool} {ps:List (Value×Value)} {rs:List (Bool×Bool)}:ip h A z p q e l→i8 h A false ps rs→i8 h A z ((p,q) :: ps) ((e,l) :: rs)
section
variable {prog:Program} {w:w_} {A:u_} {E:Value→c_→Prop} {s:c_}
theorem qf (b:Bool) {R:Option Bool×Unit→c_→Prop}:∀ {z:Bool} {l:List (Value×Value)} {rs:List (Bool×Bool)} (k:Nat),i8 s.heap A z l rs→(k=0→z=true)→R (bh rs,()) s →
 l_ (s_ prog w) A (M4 (l.zipIdx k) ((none,()):Option Bool×Unit) fun x __s=>match x with
  | ((p,q),i)=>do
   let __do_lift ← eqBool p q
   if (!__do_lift)=true then do
    let __do_lift ← oneLt' (b && i == 0) p q
    pure (ForInStep.done (some __do_lift,()))
    else pure (Jb (none,()))) R E s
 | _,_,_,k,.nil,_,h=>by
  rw [List.zipIdx_nil,Le]
  exact d_ h
 | _,_,_,k,.cons (p:=p) (q:=q) (e:=e) (l:=l) i r,hz,h=>by
  rw [List.zipIdx_cons,MB]
  refine a_ ?_
  dsimp only
  refine a_ ((i prog w E s rfl).1 _ ?_)
  cases e with
  | true =>
   simp only [Hl,i_,if_false]
   exact d_ (qf b (k + 1) r (fun z=>absurd z (Nat.succ_ne_zero k)) h)
  | false =>
   simp only [Hx,if_true]
   exact a_ ((i prog w E s rfl).2 _ _ (fun hb=>hz (by simp at hb; exact hb.2)) (d_ (d_ h)))
theorem ki (b:Bool) {a c:Addr} {xs ys:Array Value} {rs:List (Bool×Bool)} {Q:Bool→c_→Prop} (h1:s.heap.IsTuple a xs) (h2:s.heap.IsTuple c ys) (hi:i8 s.heap A true (xs.toList.zip ys.toList) rs) (h:Q ((bh rs).getD (decide (xs.size < ys.size))) s) :
 l_ (s_ prog w) A (keyLt' (ME b) (.ref a) (.ref c)) Q E s:=by
 rw [oa]
 obtain ⟨o1,g1,_,n1,d1⟩:=h1
 obtain ⟨o2,g2,_,n2,d2⟩:=h2
 refine a_ (Iq g1 d1 (a_ (Iq g2 d2 ?_)))
 refine a_ (qf b 0 hi (fun _=>rfl) ?_)
 dsimp only
 cases hf:bh rs with
 | none=>rw [hf] at h; exact d_ h
 | some r=>rw [hf] at h; exact d_ h
inductive dz (h:Heap):List Value→List Value→Prop
 | nil:dz h [] []
 | cons {a:Addr} {xs:Array Value} {f:Value} {vs fs:List Value}:h.IsTuple a xs→xs[0]?=some f→dz h vs fs→dz h (.ref a :: vs) (f :: fs)
theorem kj {R:List (Option Value)→c_→Prop}:∀ {vs:List Value} {fs:List Value},dz s.heap vs fs→R (fs.map some) s→l_ (s_ prog w) A (vs.mapM firstOfTuple') R E s
 | _,_,.nil,h=>by rw [List.mapM_nil]; exact d_ h
 | _,_,.cons e2 e3 r,h=>by
  rw [List.mapM_cons,og]
  obtain ⟨o,g,c,n,d⟩:=e2
  refine a_ (a_ (Ih (T:="tuple") ⟨o,g,c⟩ ?_))
  rw [if_neg (by decide)]
  refine a_ (Iq g d (d_ ?_))
  rw [e3]
  refine a_ (kj r ?_)
  exact d_ h
end
def zW (p q:Value) (e l:Bool):Prop:=∀ (prog:Program) (w:w_) (A:u_) (E:Value→c_→Prop) (s:c_),
 (∀ Q:Bool→c_→Prop,Q e s→l_ (s_ prog w) A (eqBool p q) Q E s)∧(∀ Q:Value→c_→Prop,Q (.bool l) s→l_ (s_ prog w) A (richCompare .Lt p q) Q E s)
inductive iq:List (Value×Value)→List (Bool×Bool)→Prop
 | nil:iq [] []
 | cons {p q:Value} {e l:Bool} {ps:List (Value×Value)} {rs:List (Bool×Bool)}:zW p q e l→iq ps rs→iq ((p,q) :: ps) ((e,l) :: rs)
section
open PySem.SeqAt
open PySem.AutoSeq1 (wpAny_loadPart')
open PySem.MeetsSeq PySem.MeetsSeq2 PySem.MeetsSeq3
theorem qg (l b:Addr) (items items2:Array Value) (n n2:Nat) (dd dd2:Option Addr) (sl sl2:Array (Option Value)) (rs:List (Bool×Bool)) (hi:iq (items.toList.zip items2.toList) rs) (hz:items.size=items2.size) :
 Meets (JL.«tuple.__lt__» ⟨[.ref l,.ref b],[]⟩)
  (fun _ R s=>s.heap.get? l=some { cls:=.type "tuple",dict:=dd,data:=.seq items n,slots:=sl }∧s.heap.get? b=some { cls:=.type "tuple",dict:=dd2,data:=.seq items2 n2,slots:=sl2 } ∧
    R (.ok (.ret (.bool ((bh rs).getD false)))) s) :=
 .of_wp fun prog w A R s h=>by
  obtain ⟨hp,g,d,tk,os⟩:=s; obtain ⟨hl,hb,h⟩:=h
  have f2:=JY
  wp_walk using IW hl,IW hb,Hy _ (fun rest b s'=>b.1=none∧s'=⟨hp,g,d,tk,os⟩∧∃ rs',iq rest rs'∧R (.ok (.ret (.bool ((bh rs').getD false)))) ⟨hp,g,d,tk,os⟩) _
  case turn =>
   rintro ⟨y,x⟩ rest b s' ⟨hb',rfl,rs',hI,hR⟩
   cases hI with
   | cons i r =>
    rename_i e lw rs''
    rw [bV] at hR
    refine a_ ((i prog w _ _ _).1 _ ?_)
    cases e with
    | true =>
     wp_walk
     exact ⟨rfl,rfl,_,r,by simpa using hR⟩
    | false =>
     have hri:=fun Q h=>(i prog w A.in1 (fun e s'=>R (.error e) s') ⟨hp,g,d,tk,os⟩).2 Q h
     wp_walk using hri
     exact ⟨_,rfl,by simpa using hR⟩
  case fin =>
   rintro ⟨b1,b2⟩ s' ⟨hb',rfl,rs',hI,hR⟩
   simp only at hb'
   subst hb'
   cases hI
   wp_walk
   exact ⟨_,rfl,by simpa [IC,hz,bh] using hR⟩
  case h =>
   exact ⟨rfl,rfl,rs,hi,h⟩
end
def eN:List Str→List Str→Bool
 | x :: xs,y :: ys=>if x=y then eN xs ys else decide (x.cps.toList < y.cps.toList)
 | _,_=>false
theorem iu:∀ {ks js:List Str} {xs ys:List Value},ks.length=js.length→Vals (ks.map V.str) xs→Vals (js.map V.str) ys→∃ rs,iq (xs.zip ys) rs∧(bh rs).getD false=eN ks js
 | [],[],xs,ys,_,v,v'=>by
  cases v
  exact ⟨[],.nil,rfl⟩
 | k :: ks,j :: js,xs,ys,hl,v,v'=>by
  cases v with
  | cons v1 v2 =>
   cases v' with
   | cons v1' v2' =>
    obtain ⟨rs,i1,i2⟩:=iu (by simpa using hl) v2 v2'
    obtain ⟨t,rfl⟩:=v1
    obtain ⟨t',rfl⟩:=v1'
    refine ⟨(decide (k=j),decide (k.cps.toList < j.cps.toList)) :: rs,.cons (fun prog w A E s=>⟨(mN s.heap A false k j t t' prog w E s rfl).1,fun Q h=>(Lu h:l_ (s_ prog w) A (EF .Lt (.str k t) (.str j t')) Q E s)⟩) i1,?_⟩
    rw [bV,i2]
    simp [eN]
 | [],_ :: _,_,_,h,_,_=>by simp at h
 | _ :: _,[],_,_,h,_,_=>by simp at h
theorem lr {prog:Program} {w:w_}:∀ {ks:List Str} {xs:List Value},Vals (ks.map V.str) xs→MR (JU prog w) ks xs
 | [],xs,v=>by cases v; exact .nil
 | k :: ks,xs,v=>by
  cases v with
  | cons v1 v2 =>
   obtain ⟨t,rfl⟩:=v1
   exact .cons (by show HK k (.str k t)=true; simp [HK]) (lr v2)
theorem tt {h0:Heap} {A:u_} {a c:Addr} {ks js:List Str} {xs ys:List Value} (hu:A.units + 8 < cLine) (h1:h0.IsTuple a xs.toArray) (h2:h0.IsTuple c ys.toArray) (hl:ks.length=js.length) (v1:Vals (ks.map V.str) xs) (v2:Vals (js.map V.str) ys) :
 ip h0 A false (.ref a) (.ref c) (decide (ks=js)) (eN ks js):=fun prog w E s hs=>by
 subst hs
 obtain ⟨⟨cls,dd,data,sl⟩,ho,hc,n,hd⟩:=id h1
 obtain ⟨⟨cls2,dd2,data2,sl2⟩,ho2,hc2,n2,hd2⟩:=id h2
 simp only at hc hd hc2 hd2
 subst hc hd hc2 hd2
 refine ⟨fun Q h=>PySem.wpAny_eqBool_tuple (knd:=JU prog w) (by omega) ⟨_,_,_,ho,rfl,rfl,by simpa using lr v1⟩ ⟨_,_,_,ho2,rfl,rfl,by simpa using lr v2⟩ h,fun b Q hb h=>?_⟩
 cases b with
 | true=>exact absurd (hb rfl) (by decide)
 | false =>
  rw [Lm]
  simp only [i_,if_false]
  obtain ⟨rs,i1,i2⟩:=iu hl v1 v2
  rw [← i2] at h
  have hz:xs.toArray.size=ys.toArray.size:=by
   have e1:=v1.length
   have e2:=v2.length
   simp at e1 e2 ⊢
   omega
  refine a_ ?_
  exact Ko (op:=.Lt) ⟨_,ho,rfl⟩ ⟨_,ho2,rfl⟩ PySem.F.slot_tuple_lt PySem.F.entry_tuple_lt (PySem.F.args_tuple_lt_2 _ _) (qg a c xs.toArray ys.toArray n n2 dd dd2 sl sl2 rs i1 hz)
   ⟨ho,ho2,show F1 ((bh rs).getD false)≠K3∧_ from ⟨(fun x=>nomatch x),kh _ h⟩⟩ (by omega)
end TS
namespace TS
open PySem PyProof.Rows FD
def kdI:Dv→Nat
 | .str _=>1
 | .int _=>2
 | .bl _=>3
 | .tup ds=>(match aN ds with | some ks=>4 + ks.length | none=>0)
 | _=>0
def eqI:Dv→Dv→Bool
 | .str a,.str b=>decide (a=b)
 | .int a,.int b=>a == b
 | .bl a,.bl b=>a == b
 | .tup a,.tup b=>(match aN a,aN b with | some x,some y=>decide (x=y) | _,_=>false)
 | _,_=>false
def ltI:Dv→Dv→Bool
 | .str a,.str b=>decide (a.cps.toList < b.cps.toList)
 | .int a,.int b=>decide (a < b)
 | .bl a,.bl b=>decide (b2i a < b2i b)
 | .tup a,.tup b=>(match aN a,aN b with | some x,some y=>eN x y | _,_=>false)
 | _,_=>false
def ltL:List Dv→List Dv→Bool
 | x :: xs,y :: ys=>if eqI x y then ltL xs ys else ltI x y
 | _,_=>false
def sig (ds:List Dv):List Nat:=ds.map kdI
def dE (ks:List Nat):Bool:=ks.all fun k=>k != 0
theorem dt:∀ {ds:List Dv} {ks:List Str},aN ds=some ks→ds=ks.map Dv.str
 | [],ks,h=>by cases h; rfl
 | .str x :: r,ks,h=>by
  obtain ⟨rs,h1,rfl⟩:=EB.mp (show (aN r).map (x :: ·)=some ks from h)
  rw [dt h1]
  rfl
 | .non :: _,_,h=>by cases h
 | .bl _ :: _,_,h=>by cases h
 | .int _ :: _,_,h=>by cases h
 | .tup _ :: _,_,h=>by cases h
 | .lst _ :: _,_,h=>by cases h
 | .scr _ :: _,_,h=>by cases h
 | .exn _ :: _,_,h=>by cases h
theorem dA {ds:List Dv} (h:kdI (.tup ds)≠0):∃ ks,aN ds=some ks∧kdI (.tup ds)=4 + ks.length:=by
 simp only [kdI] at h ⊢
 split at h
 · rename_i ks e
   exact ⟨ks,e,rfl⟩
 · exact absurd rfl h
theorem iw {x y:Dv} (h:eqI x y=true):x=y:=by
 cases x <;> cases y <;> simp only [eqI,i_,decide_eq_true_eq,beq_iff_eq] at h <;> try (rw [h]; done)
 split at h
 · rename_i e1 e2
   rw [dt e1,dt e2,of_decide_eq_true h]
 · cases h
theorem mP {x:Dv} (h:kdI x≠0):eqI x x=true:=by
 cases x <;> try (simp [kdI] at h; done)
 all_goals try (simp [eqI]; done)
 obtain ⟨ks,e,_⟩:=dA h
 simp [eqI,e]
theorem mQ:∀ xs:List Str,eN xs xs=false
 | []=>rfl
 | x :: xs=>by rw [eN,if_pos rfl]; exact mQ xs
theorem qh:∀ {xs ys zs:List Str},eN xs ys=true→eN ys zs=true→eN xs zs=true
 | x :: xs,y :: ys,z :: zs,h1,h2=>by
  unfold eN at h1 h2 ⊢
  by_cases e1:x=y
  · subst e1
    rw [if_pos rfl] at h1
    by_cases e2:x=z
    · rw [if_pos e2] at h2 ⊢
      exact qh h1 h2
    · rw [if_neg e2] at h2 ⊢
      exact h2
  · rw [if_neg e1] at h1
    by_cases e2:y=z
    · subst e2
      rw [if_neg e1]
      exact h1
    · rw [if_neg e2] at h2
      have:=LC (of_decide_eq_true h1) (of_decide_eq_true h2)
      rw [if_neg fun e=>by subst e; exact Ld _ this]
      exact decide_eq_true this
 | [],_,_,h1,_=>by simp [eN] at h1
 | _ :: _,[],_,h1,_=>by simp [eN] at h1
 | _ :: _,_ :: _,[],_,h2=>by simp [eN] at h2
theorem qi (a b:Str) (h:¬ a.cps.toList < b.cps.toList) (h':¬ b.cps.toList < a.cps.toList):a=b:=by
 have e:a.cps.toList=b.cps.toList:=Mp (Lb.mp h') (Lb.mp h)
 obtain ⟨⟨a⟩⟩:=a; obtain ⟨⟨b⟩⟩:=b
 simp at e
 rw [e]
theorem ls:∀ {xs ys:List Str},xs.length=ys.length→eN xs ys=false→eN ys xs=false→xs=ys
 | [],[],_,_,_=>rfl
 | x :: xs,y :: ys,hl,h1,h2=>by
  unfold eN at h1 h2
  by_cases e:x=y
  · subst e
    rw [if_pos rfl] at h1 h2
    rw [ls (by simpa using hl) h1 h2]
  · rw [if_neg e] at h1
    rw [if_neg (GE e)] at h2
    exact absurd (qi _ _ (of_decide_eq_false h1) (of_decide_eq_false h2)) e
 | [],_ :: _,h,_,_=>by simp at h
 | _ :: _,[],h,_,_=>by simp at h
theorem mR (x:Dv):ltI x x=false:=by
 cases x with
 | str a=>simp only [ltI,decide_eq_false_iff_not]; exact Ld _
 | int a=>simp [ltI]
 | bl a=>cases a <;> rfl
 | tup ds =>
  simp only [ltI]
  split
  · rename_i x y e1 e2
    rw [e1] at e2
    cases e2
    exact mQ x
  · rfl
 | _=>rfl
theorem mS {x y z:Dv} (h1:ltI x y=true) (h2:ltI y z=true):ltI x z=true:=by
 cases x <;> cases y <;> simp only [ltI,i_,decide_eq_true_eq] at h1 <;> cases z <;> simp only [ltI,i_,decide_eq_true_eq] at h2 ⊢
 · omega
 · omega
 · exact LC h1 h2
 · split at h1
   · rename_i x1 y1 e1 e2
     split at h2
     · rename_i y2 z2 e3 e4
       rw [e2] at e3
       cases e3
       rw [e1,e4]
       exact qh h1 h2
     · cases h2
   · cases h1
theorem qj {x y:Dv} (hk:kdI x=kdI y) (h0:kdI x≠0) (h1:ltI x y=false) (h2:ltI y x=false):x=y:=by
 cases x with
 | str a =>
  cases y with
  | str b =>
   simp only [ltI,decide_eq_false_iff_not] at h1 h2
   rw [qi _ _ h1 h2]
  | tup b=>obtain ⟨_,_,e⟩:=dA (show kdI (.tup b)≠0 by rw [← hk]; exact h0); simp only [kdI] at hk e; rw [e] at hk; omega
  | _=>simp [kdI] at hk
 | int a =>
  cases y with
  | int b=>simp [ltI] at h1 h2; rw [show a=b by omega]
  | tup b=>obtain ⟨_,_,e⟩:=dA (show kdI (.tup b)≠0 by rw [← hk]; exact h0); simp only [kdI] at hk e; rw [e] at hk; omega
  | _=>simp [kdI] at hk
 | bl a =>
  cases y with
  | bl b=>cases a <;> cases b <;> simp [ltI,b2i] at h1 h2 ⊢
  | tup b=>obtain ⟨_,_,e⟩:=dA (show kdI (.tup b)≠0 by rw [← hk]; exact h0); simp only [kdI] at hk e; rw [e] at hk; omega
  | _=>simp [kdI] at hk
 | tup a =>
  obtain ⟨ks,e1,e2⟩:=dA h0
  cases y with
  | tup b =>
   obtain ⟨js,e3,e4⟩:=dA (show kdI (.tup b)≠0 by rw [← hk]; exact h0)
   simp only [ltI,e1,e3] at h1 h2
   rw [dt e1,dt e3,ls (by omega) h1 h2]
  | _=>simp only [kdI] at hk e2; rw [e2] at hk; omega
 | _=>exact absurd rfl h0
theorem qk:∀ xs:List Dv,ltL xs xs=false
 | []=>rfl
 | x :: xs=>by
  unfold ltL
  split
  · exact qk xs
  · exact mR x
theorem mT:∀ {xs ys zs:List Dv},ltL xs ys=true→ltL ys zs=true→ltL xs zs=true
 | x :: xs,y :: ys,z :: zs,h1,h2=>by
  unfold ltL at h1 h2 ⊢
  by_cases e1:eqI x y=true
  · have:=iw e1
    subst this
    rw [if_pos e1] at h1
    by_cases e2:eqI x z=true
    · rw [if_pos e2] at h2 ⊢
      exact mT h1 h2
    · rw [if_neg e2] at h2 ⊢
      exact h2
  · rw [if_neg e1] at h1
    by_cases e2:eqI y z=true
    · have:=iw e2
      subst this
      rw [if_neg e1]
      exact h1
    · rw [if_neg e2] at h2
      have:=mS h1 h2
      rw [if_neg fun e=>by
       have:=iw e
       subst this
       have:=mS h1 h2
       rw [mR] at this
       cases this]
      exact this
 | [],_,_,h1,_=>by simp [ltL] at h1
 | _ :: _,[],_,h1,_=>by simp [ltL] at h1
 | _ :: _,_ :: _,[],_,h2=>by simp [ltL] at h2
theorem uZ:∀ {xs ys zs:List Dv},sig xs=sig ys→sig ys=sig zs→dE (sig xs)=true→ltL xs zs=true→ltL xs ys=true∨ltL ys zs=true
 | x :: xs,y :: ys,z :: zs,s1,s2,hk,h=>by
  simp only [sig,t_,MC] at s1 s2
  simp only [sig,dE,t_,Gw,on,bne_iff_ne,ne_eq] at hk
  have hx:=hk.1
  unfold ltL at h ⊢
  by_cases e1:eqI x y=true
  · have:=iw e1
    subst this
    rw [if_pos e1]
    by_cases e2:eqI x z=true
    · rw [if_pos e2] at h ⊢
      exact uZ s1.2 s2.2 (by simpa [dE,sig] using hk.2) h
    · rw [if_neg e2] at h ⊢
      exact .inr h
  · rw [if_neg e1]
    by_cases e2:eqI y z=true
    · have:=iw e2
      subst this
      rw [if_neg e1] at h
      exact .inl h
    · rw [if_neg e2]
      cases hl:ltI x y with
      | true=>exact .inl rfl
      | false =>
       cases hr:ltI y z with
       | true=>exact .inr rfl
       | false =>
        exfalso
        have g1:ltI y x=true:=by
         cases q:ltI y x with
         | true=>rfl
         | false =>
          have:=qj s1.1 hx hl q
          subst this
          exact absurd (mP hx) e1
        have g2:ltI z y=true:=by
         cases q:ltI z y with
         | true=>rfl
         | false =>
          have:=qj s2.1 (by rw [← s1.1]; exact hx) hr q
          subst this
          exact absurd (mP (by rw [← s1.1]; exact hx)) e2
        have g3:=mS g2 g1
        by_cases e3:eqI x z=true
        · have:=iw e3
          subst this
          rw [mR] at g3
          cases g3
        · rw [if_neg e3] at h
          have:=mS h g3
          rw [mR] at this
          cases this
 | [],_,_,_,_,_,h=>by simp [ltL] at h
 | _ :: _,[],_,s1,_,_,_=>by simp [sig] at s1
 | _ :: _,_ :: _,[],_,s2,_,_=>by simp [sig] at s2
theorem ql {R:Nat→Nat→Prop} (as:∀ a b,R a b→R b a→False):∀ {l m:List Nat},l.Perm m→l.Pairwise R→m.Pairwise R→l=m
 | [],m,hp,_,_=>hp.nil_eq
 | x :: l,[],hp,_,_=>by simpa using hp.length_eq
 | x :: l,y :: m,hp,h1,h2=>by
  rw [xy] at h1 h2
  have e:x=y:=by
   rcases pi.mp (hp.mem_iff.mp (h_ (a:=x))) with e | hx
   · exact e
   · rcases pi.mp (hp.mem_iff.mpr (h_ (a:=y))) with e | hy
     · exact e.symm
     · exact (as _ _ (h1.1 y hy) (h2.1 x hx)).elim
  subst e
  rw [ql as hp.cons_inv h1.2 h2.2]
theorem Lex.as {blt:Nat→Nat→Bool} (O:Od blt) {a b:Nat} (h:Lex blt a b) (h':Lex blt b a):False:=by
 have:=h.tr O h'
 rcases this with q | q
 · rw [O.ir] at q; cases q
 · omega
theorem qm {blt:Nat→Nat→Bool} (O:Od blt) (x:Nat):∀ l:List Nat,(∀ y∈l,x < y)→l.Pairwise (Lex blt)→(jD (fun i j=>!blt j i) x l).Pairwise (Lex blt)
 | [],_,_=>by simp [jD]
 | y :: l,hx,h=>by
  unfold jD
  rw [xy] at h
  split
  · rename_i hc
    have hxy:Lex blt x y:=.of_le (by simpa using hc) (hx y h_)
    rw [xy,xy]
    refine ⟨fun z hz=>?_,h⟩
    rcases pi.mp hz with rfl | hz
    · exact hxy
    · exact hxy.tr O (h.1 z hz)
  · rename_i hc
    rw [xy]
    refine ⟨fun z hz=>?_,qm O x l (fun z hz=>hx z (k_ _ hz)) h.2⟩
    rcases pi.mp ((c8 _ x l).mem_iff.mp hz) with rfl | hz
    · exact .inl (by simpa using hc)
    · exact h.1 z hz
theorem mU {blt:Nat→Nat→Bool} (O:Od blt):∀ l:List Nat,l.Pairwise (· < ·)→(av (fun i j=>!blt j i) l).Pairwise (Lex blt)
 | [],_=>.nil
 | x :: l,h=>by
  rw [xy] at h
  exact qm O x _ (fun y hy=>h.1 y ((aj _ l).mem_iff.mp hy)) (mU O l h.2)
theorem qo {α β:Type} {le:α→α→Bool} {le':β→β→Bool} (f:α→β) (x:α):∀ l:List α,(∀ y∈l,le x y=le' (f x) (f y))→(jD le x l).map f=jD le' (f x) (l.map f)
 | [],_=>rfl
 | y :: l,h=>by
  have e:=h y h_
  simp only [jD,t_]
  rw [← e]
  split
  · rfl
  · rw [t_,qo f x l fun z hz=>h z (k_ _ hz)]
theorem sort_map {α β:Type} {le:α→α→Bool} {le':β→β→Bool} (f:α→β):∀ l:List α,(∀ x∈l,∀ y∈l,le x y=le' (f x) (f y))→(av le l).map f=av le' (l.map f)
 | [],_=>rfl
 | x :: l,h=>by
  simp only [av,t_]
  rw [qo (le':=le') f x _ fun y hy=>h x h_ y (k_ _ ((aj _ l).mem_iff.mp hy)),sort_map f l fun a ha b hb=>h a (k_ _ ha) b (k_ _ hb)]
theorem gm:∀ (l m:List Nat),l.Nodup→(∀ x∈l,x∈m)→m.length≤l.length→l.Perm m
 | [],m,_,_,h=>by
  have:m=[]:=Gr.mp (by simpa using h)
  subst this
  exact .refl _
 | x :: l,m,nd,hs,h=>by
  rw [Gf] at nd
  obtain ⟨m1,m2,rfl⟩:=List.append_of_mem (hs x h_)
  refine ((gm l (m1 ++ m2) nd.2 (fun y hy=>?_) (by simp at h ⊢; omega)).cons x).trans List.perm_middle.symm
  have:=hs y (k_ _ hy)
  simp only [A_,pi] at this ⊢
  rcases this with q | rfl | q
  · exact .inl q
  · exact (nd.1 hy).elim
  · exact .inr q
theorem lu {n:Nat} {p:Nat→Nat} (hlt:∀ k,k < n→p k < n) (inj:∀ a b,a < n→b < n→p a=p b→a=b):((g_ n).map p).Perm (g_ n):=by
 have nd:((g_ n).map p).Nodup:=by
  rw [List.nodup_iff_pairwise_ne,FY]
  refine (List.nodup_range (n:=n)).imp_of_mem fun {a b} ha hb hab e=>hab (inj a b (by simpa using ha) (by simpa using hb) e)
 have sub:∀ x∈(g_ n).map p,x∈g_ n:=fun x hx=>by
  obtain ⟨k,hk,rfl⟩:=m_.mp hx
  simpa using hlt k (by simpa using hk)
 exact gm _ _ nd sub (by simp)
theorem gp {blt:Nat→Nat→Bool} (O:Od blt) {n:Nat} {p:Nat→Nat} (hlt:∀ k,k < n→p k < n) (inj:∀ a b,a < n→b < n→p a=p b→a=b) (so:∀ a b,a < b→b < n→Lex blt (p a) (p b)) :
 (g_ n).map p=av (fun i j=>!blt j i) (g_ n):=by
 refine ql (fun a b h h'=>h.as O h') ((lu hlt inj).trans (aj _ _).symm) ?_ (mU O _ Iv)
 rw [FY]
 exact (Iv (n:=n)).imp_of_mem fun {a b} ha hb hab=>so a b hab (by simpa using hb)
section
variable {prog:Program} {w:w_} {A:u_} {E:Value→c_→Prop} {s:c_}
theorem mV {R:List Value→c_→Prop}:∀ {fs:List Value},(∀ f∈fs,∃ T,∀ s':c_,s'.TypeIs f T)→(∀ ts,R ts s)→l_ (s_ prog w) A (fs.mapM typeOf) R E s
 | [],_,h=>by rw [List.mapM_nil]; exact d_ (h _)
 | f :: fs,hf,h=>by
  obtain ⟨T,hT⟩:=hf f h_
  rw [List.mapM_cons]
  refine a_ (Ih (hT s) ?_)
  exact a_ (mV (fun g hg=>hf g (k_ _ hg)) fun ts=>d_ (h _))
theorem zX {vs fs:List Value} (hF:dz s.heap vs fs) (hf:∀ f∈fs,∃ T,∀ s':c_,s'.TypeIs f T) {R:Kb→c_→Prop} (h:∀ b,R (ME b) s):l_ (s_ prog w) A (keyKind' vs.toArray) R E s:=by
 rw [keyKind'_eq,L8]
 refine a_ ?_
 rw [← bind_pure_comp]
 refine a_ (kj hF (d_ ?_))
 rw [if_pos (by simp)]
 refine a_ (II ?_)
 have e:(fs.map some).toArray.filterMap id=fs.toArray:=by simp
 rw [e,oneTypeOnly'_eq,L8]
 refine a_ (a_ ?_)
 rw [← bind_pure_comp]
 refine a_ (mV hf fun ts=>d_ ?_)
 split
 · exact d_ (d_ (h _))
 · exact d_ (d_ (h _))
end
section
variable {prog:Program} {w:w_} {A:u_} {E:Value→c_→Prop} {s:c_} {blt:Nat→Nat→Bool}
theorem tu {l:Addr} {vs fs:List Value} {Q:Value→c_→Prop} (hl:s.heap.IsList l vs.toArray) (h64:vs.length < 64) (O:Od blt) (hF:dz s.heap vs fs) (hf:∀ f∈fs,∃ T,∀ s':c_,s'.TypeIs f T)
 (hC:∀ (A':u_) (h':Heap) (i j:Nat) (x y:Value),A'.units≤A.units + 8→(∀ b o,s.heap.get? b=some o→h'.get? b=some o)→vs[i]?=some x→vs[j]?=some y→∃ a c xs ys rs,x=.ref a∧y=.ref c∧s.heap.IsTuple a xs∧s.heap.IsTuple c ys∧i8 h' A' true (xs.toList.zip ys.toList) rs∧(bh rs).getD (decide (xs.size < ys.size))=blt i j)
 (h:∀ (L:Addr) (h':Heap) (tk:Nat) (out:List Value) (e:Nat) (p:Nat→Nat),h'.get? L=some (ES "list" out.toArray e)→s.heap.objs.size≤L→(∀ b o,s.heap.get? b=some o→h'.get? b=some o) →
   out.length=vs.length→(∀ k,k < vs.length→out[k]?=vs[p k]?)→(g_ vs.length).map p=av (fun i j=>!blt j i) (g_ vs.length)→(∀ k,k < vs.length→p k < vs.length)→Q (.ref L) { s with heap:=h',toks:=tk }) :
 l_ (s_ prog w) A (call (.builtin "sorted") [.ref l]) Q E s:=by
 refine Calls.call_function_entry kind_sorted plain_sorted entry_sorted (args_sorted1 _) ?_
 unfold JL.«sorted»
 refine a_ (m:=checkCount "sorted" 1 1 _) (d_ ?_)
 refine a_ (collect_list hl ?_ (line64 h64))
 refine a_ (JR ?_ (line64 h64))
 generalize hH:(s.heap.push (ES "list" #[] 0)).update s.heap.objs.size (ER (· ++ vs.toArray))=H1
 have sz1:H1.objs.size=s.heap.objs.size + 1:=by rw [← hH,G4,IL]
 have up1:∀ b o,s.heap.get? b=some o→H1.get? b=some o:=fun b o q=>by
  have:=q_ q
  rw [← hH,FN _ _ _ _ (z_ this),Gp _ _ _ (z_ this)]
  exact q
 have hoL:(H1.push (ES "list" vs.toArray 0)).get? H1.objs.size=some (ES "list" vs.toArray 0):=o_ _ rfl
 have up2:∀ b o,s.heap.get? b=some o→(ef (H1.push (ES "list" vs.toArray 0)) H1.objs.size vs).get? b=some o:=fun b o q=>by
  have q1:=up1 b o q
  have:=q_ q1
  unfold ef
  rw [Gp _ _ _ (by rw [IL,G4,IL]; exact z_ (Gb (Gb this))),Gp _ _ _ (by rw [G4,IL]; exact z_ (Gb this)),FN _ _ _ _ (z_ this),Gp _ _ _ (z_ this)]
  exact q1
 have tup2:∀ a xs,s.heap.IsTuple a xs→(ef (H1.push (ES "list" vs.toArray 0)) H1.objs.size vs).IsTuple a xs:=fun a xs ⟨o,g,r⟩=>⟨o,up2 _ _ g,r⟩
 have F2:∀ {vs' fs':List Value},dz s.heap vs' fs'→dz (ef (H1.push (ES "list" vs.toArray 0)) H1.objs.size vs) vs' fs':=by
  intro vs' fs' hF'
  induction hF' with
  | nil=>exact .nil
  | cons a b _ ih=>exact .cons (tup2 _ _ a) b ih
 show l_ _ _ _ _ _ { s with heap:=H1.push (ES "list" vs.toArray 0) }
 refine a_ (FB (Ft slot_list_sort ⟨_,hoL,rfl⟩ entry_list_sort (zV (s:={ s with heap:=H1.push (ES "list" vs.toArray 0) }) (Kd:=fun k=>∃ b,k=ME b) hoL h64 O (fun _ s1 J1=>?_) (fun kd hk=>?_) fun p out tk o1 o2 o3 o4 o5=>⟨_,rfl,?_⟩) (args_list_sort _)))
 · obtain ⟨tk,htk,rfl⟩:=J1
   exact zX (s:={ s with heap:=ef (H1.push (ES "list" vs.toArray 0)) H1.objs.size vs,toks:=tk }) (F2 hF) hf fun b=>⟨⟨tk,htk,rfl⟩,b,rfl⟩
 · obtain ⟨b,rfl⟩:=hk
   intro i j x y s1 E' ex ey J1
   obtain ⟨tk,htk,rfl⟩:=J1
   have pz:∀ (k:Nat) (z:LB),(JO vs)[k]?=some z→vs[k]?=some z.1:=fun k z hz=>by
    have hk:k < vs.length:=by
     have:=(Fp.mp hz).1
     rwa [KF] at this
    unfold JO at hz
    simp [hk] at hz
    rw [n_ hk,← hz]
   obtain ⟨a,c,xs,ys,rs,e1,e2,t1,t2,it,eb⟩:=hC A.in1.in1 _ i j x.1 y.1 (by show A.units + 1 + 1≤_; omega) up2 (pz i x ex) (pz j y ey)
   rw [e1,e2]
   refine ki (s:={ s with heap:=ef (H1.push (ES "list" vs.toArray 0)) H1.objs.size vs,toks:=tk }) b (tup2 _ _ t1) (tup2 _ _ t2) it ⟨⟨tk,htk,rfl⟩,eb⟩
 · obtain ⟨e,he⟩:=sortedHeap_at (out:=out) hoL
   refine d_ ⟨_,rfl,h H1.objs.size _ tk out.toList e p (by rw [Array.toArray_toList]; exact he) (by rw [sz1]; exact G7 _) (fun b o q=>?_) (by simpa using o1) (fun k hk=>by simpa using o2 k hk) (gp O o3 o4 o5) o3⟩
   have q1:=up1 b o q
   have:=q_ q1
   rw [sortedHeap_old (z_ this) (by rw [IL]; exact Gb this),Gp _ _ _ (z_ this)]
   exact q1
end
end TS
namespace FD
open PySem PySem.Spec PyProof.Rows L2 TS
def gq:List Dv→Option (List (List Dv))
 | []=>some []
 | .tup es :: r=>(gq r).map (es :: ·)
 | _=>none
def tw:List Dv→Bool
 | []=>false
 | d :: _=>decide (kdI d < 4)
def ci (rows:List (List Dv)):Bool:=decide (rows.length < 64) && rows.all fun r=>decide (sig r=sig (rows.headD [])) && tw r && dE (sig r)
def cX:List Dv→Option (Rs Dv)
 | [.lst ds]=>match gq ds with
  | some rows=>if ci rows=true then some (.ok (.lst ((av (fun a b=>!ltL b a) rows).map Dv.tup))) else none
  | none=>zP [.lst ds]
 | _=>none
theorem mW:∀ {ds:List Dv} {rows:List (List Dv)},gq ds=some rows→ds=rows.map Dv.tup
 | [],rows,h=>by cases h; rfl
 | .tup es :: r,rows,h=>by
  obtain ⟨rs,h1,rfl⟩:=EB.mp (show (gq r).map (es :: ·)=some rows from h)
  rw [mW h1]
  rfl
 | .non :: _,_,h=>by cases h
 | .bl _ :: _,_,h=>by cases h
 | .int _ :: _,_,h=>by cases h
 | .str _ :: _,_,h=>by cases h
 | .lst _ :: _,_,h=>by cases h
 | .scr _ :: _,_,h=>by cases h
 | .exn _ :: _,_,h=>by cases h
section
variable {X:Cx} {pins:List (Addr×Obj)} {σ:L2.St} {H:Hp} {s:c_}
theorem kl {K:ck}:∀ {ds:List Dv} {ks:List Str} {us:List V},aN ds=some ks→Reps K H ds us→us=ks.map V.str:=by
 intro ds ks us h r
 have:=dt h
 subst this
 clear h
 induction ks generalizing us with
 | nil=>exact (show us=[] from r)
 | cons k ks ih =>
  obtain ⟨v,vs,rfl,r1,r2⟩:∃ v vs,us=v :: vs∧Rep K H (.str k) v∧Reps K H (ks.map Dv.str) vs:=r
  cases (show v=.str k from r1)
  rw [ih r2]
  rfl
theorem jc {h':Heap} {A:u_} (I:Inv X pins σ H s) (hu:A.units + 8 < cLine) (up:∀ b o,s.heap.get? b=some o→h'.get? b=some o):∀ {z:Bool} {es es':List Dv} {us us':List V} {tis tis':List Value},(z=true→tw es=true)→sig es=sig es'→dE (sig es)=true→Reps X.K H es us→Reps X.K H es' us'→Vals us tis→Vals us' tis' →
 ∃ rs,i8 h' A z (tis.zip tis') rs∧(bh rs).getD false=ltL es es'
 | z,[],[],us,us',tis,tis',_,_,_,r,r',v,v'=>by
  cases (show us=[] from r)
  cases v
  exact ⟨[],.nil,rfl⟩
 | z,x :: es,y :: es',us,us',tis,tis',hz,s,hk,r,r',v,v'=>by
  obtain ⟨u,us1,rfl,r1,r2⟩:∃ v us1,us=v :: us1∧Rep X.K H x v∧Reps X.K H es us1:=r
  obtain ⟨u',us1',rfl,r1',r2'⟩:∃ v us1,us'=v :: us1∧Rep X.K H y v∧Reps X.K H es' us1:=r'
  simp only [sig,t_,MC] at s
  simp only [sig,dE,t_,Gw,on,bne_iff_ne,ne_eq] at hk
  cases v with
  | cons v1 v2 =>
   cases v' with
   | cons v1' v2' =>
    obtain ⟨rs,i1,i2⟩:=jc I hu up (z:=false) (fun z=>by cases z) s.2 (by simpa [dE,sig] using hk.2) r2 r2' v2 v2'
    rename_i b1 l1 b2 l2
    have one:∀ (p q:Value) (e l:Bool),ip h' A z p q e l→(if e=true then ltL es es' else l)=ltL (x :: es) (y :: es')→∃ rs,i8 h' A z ((p,q) :: l1.zip l2) rs∧(bh rs).getD false=ltL (x :: es) (y :: es'):=fun p q e l h zz =>
     ⟨(e,l) :: rs,.cons h i1,by rw [bV,i2]; exact zz⟩
    have kt:∀ ds n,kdI (.tup ds)=n→n≠0→n < 4→False:=fun ds n e h0 h4=>by
     obtain ⟨_,_,e'⟩:=dA (ds:=ds) (by omega)
     omega
    cases x with
    | str a =>
     cases y with
     | str b =>
      cases (show u=.str a from r1)
      cases (show u'=.str b from r1')
      obtain ⟨t,rfl⟩:=v1
      obtain ⟨t',rfl⟩:=v1'
      exact one _ _ _ _ (mN h' A z a b t t') rfl
     | tup b=>exact (kt b 1 s.1.symm (by decide) (by decide)).elim
     | _=>exact absurd s.1 (by simp [kdI])
    | int a =>
     cases y with
     | int b =>
      cases (show u=.int a from r1)
      cases (show u'=.int b from r1')
      obtain ⟨t,rfl⟩:=v1
      obtain ⟨t',rfl⟩:=v1'
      exact one _ _ _ _ (mO h' A z a b t t') rfl
     | tup b=>exact (kt b 2 s.1.symm (by decide) (by decide)).elim
     | _=>exact absurd s.1 (by simp [kdI])
    | bl a =>
     cases y with
     | bl b =>
      cases (show u=.bl a from r1)
      cases (show u'=.bl b from r1')
      cases v1
      cases v1'
      exact one _ _ _ _ (wN h' A z a b) rfl
     | tup b=>exact (kt b 3 s.1.symm (by decide) (by decide)).elim
     | _=>exact absurd s.1 (by simp [kdI])
    | tup ds =>
     obtain ⟨ks,e1,e2⟩:=dA hk.1
     cases y with
     | tup ds' =>
      obtain ⟨js,e3,e4⟩:=dA (ds:=ds') (by rw [← s.1]; exact hk.1)
      obtain ⟨a,xs,rfl,ha,rx⟩:=r1.tupE
      obtain ⟨c,ys,rfl,hc,ry⟩:=r1'.tupE
      cases v1
      cases v1'
      obtain ⟨its,q1,q2,_⟩:=I.tuple (SqT.of ha)
      obtain ⟨its2,p1,p2,_⟩:=I.tuple (SqT.of hc)
      have zf:z=false:=by
       cases z with
       | false=>rfl
       | true =>
        have:=hz rfl
        simp only [tw,decide_eq_true_eq] at this
        omega
      subst zf
      obtain ⟨o1,g1,g1'⟩:=q2
      obtain ⟨o2,g2,g2'⟩:=p2
      rw [kl e1 rx] at q1
      rw [kl e3 ry] at p1
      refine one _ _ _ _ (tt hu ⟨o1,up _ _ g1,g1'⟩ ⟨o2,up _ _ g2,g2'⟩ (by have:=s.1; omega) q1 p1) ?_
      simp only [ltL,eqI,ltI,e1,e3]
     | _=>have:=s.1; simp only [kdI] at this e2; rw [e2] at this; omega
    | _=>exact absurd rfl hk.1
 | _,[],_ :: _,_,_,_,_,_,s,_,_,_,_,_=>by simp [sig] at s
 | _,_ :: _,[],_,_,_,_,_,s,_,_,_,_,_=>by simp [sig] at s
end
theorem tz {K:ck} {H:Hp} {x:Dv} {v:V} {u:Value} (hk:kdI x≠0) (h4:kdI x < 4) (r:Rep K H x v) (rv:RelV v u):∃ T,∀ s':c_,s'.TypeIs u T:=by
 cases x with
 | str a=>cases (show v=.str a from r); obtain ⟨t,rfl⟩:=rv; exact ⟨"str",fun s=>IJ s _ _⟩
 | int a=>cases (show v=.int a from r); obtain ⟨t,rfl⟩:=rv; exact ⟨"int",fun s=>typeIs_int s _ _⟩
 | bl a=>cases (show v=.bl a from r); cases rv; exact ⟨"bool",fun s=>L5 s _⟩
 | tup ds=>obtain ⟨_,_,e⟩:=dA hk; omega
 | _=>exact absurd rfl hk
section
variable {X:Cx} {pins:List (Addr×Obj)} {σ:L2.St} {H:Hp} {s:c_}
theorem gs (I:Inv X pins σ H s):∀ {rows:List (List Dv)} {ws:List V} {its:List Value},(∀ r∈rows,tw r=true∧dE (sig r)=true)→Reps X.K H (rows.map Dv.tup) ws→Vals ws its→∃ fs,dz s.heap its fs∧∀ f∈fs,∃ T,∀ s':c_,s'.TypeIs f T
 | [],ws,its,_,r,v=>by
  cases (show ws=[] from r)
  cases v
  exact ⟨[],.nil,by simp⟩
 | es :: rows,ws,its,h,r,v=>by
  obtain ⟨u,ws1,rfl,r1,r2⟩:∃ v ws1,ws=v :: ws1∧Rep X.K H (.tup es) v∧Reps X.K H (rows.map Dv.tup) ws1:=r
  obtain ⟨a,xs,rfl,ha,rx⟩:=r1.tupE
  cases v with
  | cons v1 v2 =>
   cases v1
   obtain ⟨fs,f1,f2⟩:=gs I (fun r hr=>h r (k_ _ hr)) r2 v2
   obtain ⟨tis,rt,pt,hz⟩:=I.tuple (SqT.of ha)
   obtain ⟨h1,h2⟩:=h es h_
   cases es with
   | nil=>cases h1
   | cons x es =>
    obtain ⟨u,us,rfl,q1,q2⟩:∃ v us,xs=v :: us∧Rep X.K H x v∧Reps X.K H es us:=rx
    cases rt with
    | cons w1 w2 =>
     rename_i t ts
     refine ⟨t :: fs,.cons pt (by simp) f1,fun f hf=>?_⟩
     rcases pi.mp hf with rfl | hf
     · simp only [sig,dE,t_,Gw,on,bne_iff_ne,ne_eq] at h2
       exact tz h2.1 (of_decide_eq_true h1) q1 w1
     · exact f2 f hf
theorem km (I:Inv X pins σ H s):∀ {rows:List (List Dv)} {ws:List V} {its:List Value} (i:Nat) (x:Value),Reps X.K H (rows.map Dv.tup) ws→Vals ws its→its[i]?=some x→∃ a us tis es,rows[i]?=some es∧ws[i]?=some (.ref a)∧x=.ref a∧Reps X.K H es us∧Vals us tis∧H a=some (.tup us)∧s.heap.IsTuple a tis.toArray
 | [],ws,its,i,x,r,v,h=>by
  cases (show ws=[] from r)
  cases v
  simp at h
 | es :: rows,ws,its,i,x,r,v,h=>by
  obtain ⟨u,ws1,rfl,r1,r2⟩:∃ v ws1,ws=v :: ws1∧Rep X.K H (.tup es) v∧Reps X.K H (rows.map Dv.tup) ws1:=r
  obtain ⟨a,xs,rfl,ha,rx⟩:=r1.tupE
  cases v with
  | cons v1 v2 =>
   cases v1
   cases i with
   | zero =>
    simp at h
    subst h
    obtain ⟨tis,rt,pt,hz⟩:=I.tuple (SqT.of ha)
    exact ⟨a,xs,tis,es,rfl,rfl,rfl,rx,rt,ha,pt⟩
   | succ i =>
    obtain ⟨a',us,tis,es',q1,q2,q⟩:=km I i x r2 v2 (by simpa using h)
    exact ⟨a',us,tis,es',by simpa using q1,by simpa using q2,q⟩
theorem bE {K:ck}:∀ {ds:List Dv} {ws:List V},Reps K H ds ws→ds.length=ws.length
 | [],ws,r=>by cases (show ws=[] from r); rfl
 | d :: ds,ws,r=>by
  obtain ⟨u,ws1,rfl,r1,r2⟩:∃ v ws1,ws=v :: ws1∧Rep K H d v∧Reps K H ds ws1:=r
  simp [bE r2]
theorem iy {K:ck} {ds:List Dv} {ws:List V} (hl:ds.length=ws.length) (h:∀ (i:Nat) (d:Dv) (v:V),ds[i]?=some d→ws[i]?=some v→Rep K H d v):Reps K H ds ws:=by
 induction ds generalizing ws with
 | nil=>cases ws with
  | nil=>exact rfl
  | cons _ _=>simp at hl
 | cons d ds ih=>cases ws with
  | nil=>simp at hl
  | cons w ws=>exact ⟨w,ws,rfl,h 0 d w rfl rfl,ih (by simpa using hl) fun i d' v e1 e2=>h (i + 1) d' v (by simpa using e1) (by simpa using e2)⟩
theorem reps_at {K:ck}:∀ {ds:List Dv} {ws:List V},Reps K H ds ws→∀ (i:Nat) (d:Dv) (v:V),ds[i]?=some d→ws[i]?=some v→Rep K H d v
 | [],_,_,i,d,v,h,_=>by simp at h
 | d0 :: ds,ws,r,i,d,v,h,h'=>by
  obtain ⟨u,ws1,rfl,r1,r2⟩:∃ v ws1,ws=v :: ws1∧Rep K H d0 v∧Reps K H ds ws1:=r
  cases i with
  | zero=>simp at h h'; subst h; subst h'; exact r1
  | succ i=>exact reps_at r2 i d v (by simpa using h) (by simpa using h')
theorem iz {ws:List V} {its:List Value} (hl:ws.length=its.length) (h:∀ (i:Nat) (v:V) (u:Value),ws[i]?=some v→its[i]?=some u→RelV v u):Vals ws its:=by
 induction ws generalizing its with
 | nil=>cases its with
  | nil=>exact .nil
  | cons _ _=>simp at hl
 | cons d ds ih=>cases its with
  | nil=>simp at hl
  | cons w ws=>exact .cons (h 0 d w rfl rfl) (ih (by simpa using hl) fun i d' v e1 e2=>h (i + 1) d' v (by simpa using e1) (by simpa using e2))
def bQ (rows:List (List Dv)) (i:Nat):List Dv:=rows.getD i (rows.headD [])
theorem gw {rows:List (List Dv)} (h:∀ r∈rows,sig r=sig (rows.headD [])∧tw r=true∧dE (sig r)=true) (i:Nat):sig (bQ rows i)=sig (rows.headD [])∧dE (sig (bQ rows i))=true:=by
 unfold bQ
 cases rows with
 | nil=>exact ⟨rfl,rfl⟩
 | cons r rows =>
  by_cases hi:i < (r :: rows).length
  · have e:(r :: rows).getD i ((r :: rows).headD [])=(r :: rows)[i]:=by
     unfold GK
     rw [n_ hi]
     rfl
    rw [e]
    have:=h _ (Ki hi)
    exact ⟨this.1,this.2.2⟩
  · have e:(r :: rows).getD i ((r :: rows).headD [])=r:=by
     unfold GK
     rw [EI (by omega)]
     rfl
    rw [e]
    exact ⟨rfl,(h r h_).2.2⟩
theorem qp {rows:List (List Dv)} (h:∀ r∈rows,sig r=sig (rows.headD [])∧tw r=true∧dE (sig r)=true):Od fun i j=>ltL (bQ rows i) (bQ rows j) where
 ir:=fun a=>qk _
 tr:=fun a b c h1 h2=>mT h1 h2
 nt:=fun a b c h1=>uZ ((gw h a).1.trans (gw h b).1.symm) ((gw h b).1.trans (gw h c).1.symm) (gw h a).2 h1
theorem dF {rows:List (List Dv)} {i:Nat} {es:List Dv} (h:rows[i]?=some es):bQ rows i=es:=by
 unfold bQ GK
 rw [h]
 rfl
theorem lv (rows:List (List Dv)):(av (fun i j=>!(fun i j=>ltL (bQ rows i) (bQ rows j)) j i) (g_ rows.length)).map (bQ rows)=av (fun a b=>!ltL b a) rows:=by
 have e:(g_ rows.length).map (bQ rows)=rows:=by
  apply Iz
  intro i
  by_cases hi:i < rows.length
  · rw [Ex,Gd hi,n_ hi]
    show some (bQ rows i)=_
    rw [dF (n_ hi)]
  · rw [EI (by simpa using hi),EI (by omega)]
 rw [sort_map (le':=fun a b=>!ltL b a) (bQ rows) _ fun x _ y _=>rfl,e]
theorem oh (hu:X.A.units + 64 < cLine):CallR X (.builtin "sorted") (fun xs H Q=>∃ a ws rows,xs=[.ref a]∧H a=some (.lst ws)∧Reps X.K H (rows.map Dv.tup) ws∧ci rows=true ∧
 ∀ l ws',H l=none→Reps X.K H ((av (fun a b=>!ltL b a) rows).map Dv.tup) ws'→Q (.ref l) (upd H l (.lst ws'))):=by
 intro pins s σ H xs us Q I r h
 obtain ⟨a,ws,rows,rfl,h1,h2,h3,q⟩:=h
 obtain ⟨u,rfl,ru⟩:=gY r
 cases ru
 obtain ⟨z,its,n,rv,hl,e⟩:=I.lstM h1
 simp only [ci,on,decide_eq_true_eq,E6] at h3
 have hr:∀ r∈rows,sig r=sig (rows.headD [])∧tw r=true∧dE (sig r)=true:=fun r hr=>⟨(h3.2 r hr).1.1,(h3.2 r hr).1.2,(h3.2 r hr).2⟩
 have hlen:rows.length=its.length:=by
  have g1:=bE h2
  have g2:=rv.length
  simp at g1
  omega
 obtain ⟨fs,f1,f2⟩:=gs I (fun r hr'=>(hr r hr').2) h2 rv
 refine tu (vs:=its) ⟨_,e,rfl,n,rfl⟩ (by omega) (qp hr) f1 f2 (fun A' hp i j x y hA up ex ey=>?_) fun L h' tk out ep p g1 g2 g3 g4 g5 g6 g7=>?_
 · obtain ⟨a1,us1,t1,es1,q1,q2,q3,q4,q5,q6,q7⟩:=km I i x h2 rv ex
   obtain ⟨a2,us2,t2,es2,p1,p2,p3,p4,p5,p6,p7⟩:=km I j y h2 rv ey
   have m1:=hr es1 (Fy q1)
   have m2:=hr es2 (Fy p1)
   obtain ⟨rs,i1,i2⟩:=jc (A:=A') (z:=true) I (by omega) up (fun _=>m1.2.1) (m1.1.trans m2.1.symm) m1.2.2 q4 p4 q5 p5
   refine ⟨a1,a2,t1.toArray,t2.toArray,rs,q3,p3,q7,p7,by simpa using i1,?_⟩
   have hsz:t1.toArray.size=t2.toArray.size:=by
    have k1:=q5.length
    have k2:=p5.length
    have k3:=bE q4
    have k4:=bE p4
    have k5:(sig es1).length=(sig es2).length:=by rw [m1.1,m2.1]
    simp [sig] at k5
    simp
    omega
   rw [hsz,decide_eq_false (FH _),i2,dF q1,dF p1]
 · have hws:ws.length=its.length:=rv.length
   have hV:Vals ((g_ its.length).map fun k=>ws.getD (p k) .non) out:=by
    refine iz (by simp [g4]) fun i v u ev eu=>?_
    have hi:i < its.length:=by
     have:=(B_.mp eu).1
     omega
    rw [g5 i hi] at eu
    rw [Ex,Gd hi] at ev
    simp only [Ge,GP] at ev
    have hp:p i < ws.length:=by rw [hws]; exact g7 i hi
    have e1:ws[p i]?=some v:=by rw [n_ hp,← ev]; simp [GK,hp]
    obtain ⟨u',e2,r2⟩:=rv.get e1
    rw [e2] at eu
    cases eu
    exact r2
   have hR:Reps X.K H ((av (fun a b=>!ltL b a) rows).map Dv.tup) ((g_ its.length).map fun k=>ws.getD (p k) .non):=by
    rw [← lv rows,hlen,← g6,E_,E_]
    refine iy (by simp) fun i d v ed ev=>?_
    have hi:i < its.length:=by
     have:=(B_.mp ed).1
     simpa using this
    rw [Ex,Gd hi] at ed ev
    simp only [Ge,GP,HN] at ed ev
    have hp:p i < ws.length:=by rw [hws]; exact g7 i hi
    have hp':p i < rows.length:=by rw [hlen]; exact g7 i hi
    refine reps_at h2 (p i) d v ?_ ?_
    · rw [Ex,n_ hp',← ed,dF (n_ hp')]
      rfl
    · rw [n_ hp,← ev]
      simp [GK,hp]
   refine ⟨.ref L,_,I.laid (h':=h') (t':=tk) (o:=.lst ((g_ its.length).map fun k=>ws.getD (p k) .non)) g3 g2 ?_,rfl,q L _ (I.hok.fresh g2) hR⟩
   exact ⟨line64 (by simp; omega),out,ep,hV,by simpa [ES] using g1⟩
end
section
variable {X:Cx} {p pos:Pos} {e:Expr} {es:List Expr} {ga:FnA}
theorem tE (hu:X.A.units + 64 < cLine) (hg:Gl X "sorted") (hm:X.mg "sorted"=none) (ha:FA X (e :: es) ga) (he:f_ (e :: es) X.env=(false,eval e X.env) :: f_ es X.env:=by kernel_rfl) (hpl:(EY pos (f_ es X.env)).any (·.1)=false:=by kernel_rfl):FE X (.Call (.Name "sorted" p) (e :: es) [] pos) (fB1 cX ga) :=
 cv (fE ((oh hu).or qb) hg hm (by decide +kernel) ha.h (by decide) (by decide) he hpl) fun σ H Q ρ E o=>⟨ρ,E,OutA.bind o fun ds vs H1 e1 rs o1=>by
  unfold cX at o1
  split at o1
  · rename_i xs
    obtain ⟨v,rfl,r⟩:=dU rs
    obtain ⟨a,ws,rfl,h1,h2⟩:=r.lstE
    split at o1
    · rename_i rows hrows
      split at o1
      · rename_i hok
        rw [mW hrows] at h2
        exact .inl ⟨a,ws,rows,rfl,h1,h2,hok,fun l ws' hl' rw'=>o1 _ _ (aq hl' _) ⟨l,_,rfl,ai,Reps.mono (aq hl' _) _ _ rw'⟩⟩
      · exact o1.elim
    · refine .inr ?_
      have o2:Out X H1 (match cy xs with
       | some ns=>if ns.length < 64 then some (Rs.ok (Dv.lst (List.map Dv.int (av leI ns)))) else none
       | none=>match aN xs with
        | some ss=>if ss.length < 64 then some (Rs.ok (Dv.lst (List.map Dv.str (av leS ss)))) else none
        | none=>none) Q:=o1
      split at o2
      · rename_i ns hb
        split at o2
        · rename_i hl
          exact ⟨a,ws,xs,rfl,h1,h2,.inl ⟨ns,hb,hl,fun l hl'=>o2 _ _ (aq hl' _) ⟨l,_,rfl,ai,kc _ _⟩⟩⟩
        · exact o2.elim
      · split at o2
        · rename_i ns hb
          split at o2
          · rename_i hl
            exact ⟨a,ws,xs,rfl,h1,h2,.inr ⟨ns,hb,hl,fun l hl'=>o2 _ _ (aq hl' _) ⟨l,_,rfl,ai,il _ _⟩⟩⟩
          · exact o2.elim
        · exact o2.elim
  · exact o1.elim⟩
end
end FD
namespace FD
open PySem PySem.Spec PyProof.Rows L2 PySem.W
section
variable {X:Cx} {hx:Expr} {body:List Stmt} {f:FnS} {g:FnE} {J n:Str} {CJ:Addr} {np rp2 hpos pos:Pos}
end
end FD
namespace FD
open PySem PySem.Spec PyProof.Rows L2 TS
section
variable {X:Cx} {pins:List (Addr×Obj)} {σ:L2.St} {H:Hp} {s:c_} {k:Nat} {f:Addr} {fd:FL} {ps:List Str} {F:List Dv→Option (Rs Dv)} {A':u_} {E:Value→c_→Prop}
theorem zY (G:FnOk X.prog X.w X.K X.mg X.base CX0 k f fd ps (spF X.K F ps.length)) (hr:Room k A') (hfr:A'.frames=X.A.frames) (hb:Binds X.K fd ps []) (I:Inv X pins σ H s) {v:V} {u:Value} {d d':Dv} (rv:RelV v u) (r:Rep X.K H d v) (h1:ps.length=1) (hF:F [d]=some (.ok d')) :
 l_ (s_ X.prog X.w) A' (call (.ref f) [u]) (EP X pins σ fun v' H'=>Same H H'∧Rep X.K H' d' v') E s:=by
 have e0:=I.env0
 refine wpAny_call (Ii (G.run A' X.stack s H ⟨[u],[]⟩ [u] [v] (fun v' H'=>Same H H'∧Rep X.K H' d' v') E0 hr ⟨hfr.trans e0.frames,e0.mod,e0.bs,e0.bsz,e0.funs,e0.frf,e0.hok,e0.bare⟩ (by simpa using hb s [u] I.kIn (by simp [h1])) (.cons rv .nil) ⟨[d],⟨v,[],rfl,r,rfl⟩,h1.symm,by rw [hF]; exact fun v H' e r=>⟨e,r⟩⟩) fun r s' hq=>?_)
 cases r with
 | error e=>exact hq.elim
 | ok fl =>
  cases fl with
  | ret u=>exact I.after hq
  | next=>exact Fu hq
  | brk=>exact Fu hq
  | cont=>exact Fu hq
end
end FD
namespace TS
open PySem PyProof.Rows FD
section
variable {prog:Program} {w:w_} {A:u_} {E:Value→c_→Prop} {s:c_} {blt:Nat→Nat→Bool}
theorem u0 {a kS:Addr} {e1 c:Nat} {its:Array Value} {st:Ir} {P:Lk→c_→Prop} (hk:s.heap.get? kS=some (ES "list" its c)) (ha:s.heap.get? a=some (ES "list" #[] e1)) (hne:kS≠a) (hz:its.size≤sizeLine) (hz2:(IV st).size≤sizeLine) (hf:La st=none)
 (h:P (.done (.ret .none)) { s with heap:=(s.heap.update kS (ER fun _=>#[])).update a (ER fun _=>(IV st).map (·.2)) }):l_ (s_ prog w) A (ksk_tail a false e1 (.ref kS) st) P E s:=by
 unfold ksk_tail
 refine a_ (Hk hk rfl ?_ hz (EK _))
 refine a_ (wpAny_letGo ?_)
 have ha2:(s.heap.update kS (ER fun _=>#[])).get? a=some (ES "list" #[] e1):=by
  rw [FN _ _ _ _ hne.symm]; exact ha
 refine a_ (JM (s:={ s with heap:=s.heap.update kS (ER fun _=>#[]) }) ha2 rfl ?_)
 refine a_ (Hk (s:={ s with heap:=s.heap.update kS (ER fun _=>#[]) }) ha2 rfl ?_ (EK _) (by simp only [i_,if_false,GC]; omega))
 rw [hf]
 simp only [bne_self_eq_false,i_,if_false]
 exact d_ h
theorem CQ {a kS:Addr} {e1 c:Nat} {its vs fs:List Value} {P:Lk→c_→Prop} (hk:s.heap.get? kS=some (ES "list" its.toArray c)) (ha:s.heap.get? a=some (ES "list" #[] e1)) (hne:kS≠a) (hlen:its.length=vs.length) (h64:vs.length < 64) (O:Od blt)
 (hF:dz s.heap its fs) (hf:∀ f∈fs,∃ T,∀ s':c_,s'.TypeIs f T)
 (hC:∀ (A':u_) (i j:Nat) (x y:Value),A'.units≤A.units + 8→its[i]?=some x→its[j]?=some y→∃ a c xs ys rs,x=.ref a∧y=.ref c∧s.heap.IsTuple a xs∧s.heap.IsTuple c ys∧i8 s.heap A' true (xs.toList.zip ys.toList) rs∧(bh rs).getD (decide (xs.size < ys.size))=blt i j)
 (h:∀ (p:Nat→Nat) (out:Array Value) (tk:Nat),out.size=vs.length→(∀ k,k < vs.length→out[k]?=vs[p k]?)→(g_ vs.length).map p=av (fun i j=>!blt j i) (g_ vs.length)→(∀ k,k < vs.length→p k < vs.length) →
   P (.done (.ret .none)) { s with heap:=(s.heap.update kS (ER fun _=>#[])).update a (ER fun _=>out),toks:=tk }) :
 l_ (s_ prog w) A (ksk_end a false vs.toArray e1 (.ref kS) its.toArray) P E s:=by
 unfold ksk_end
 simp only [i_,if_false]
 have hz:its.toArray.size≤sizeLine:=line64 (by simp; omega)
 have pz:(its.toArray.zip vs.toArray).size=vs.length:=by simp [hlen]
 have pat:∀ k,k < vs.length→(its.toArray.zip vs.toArray)[k]?=some (its.getD k .none,vs.getD k .none):=fun k hk=>by
  have:k < its.length:=by omega
  have hz':k < (its.zip vs).length:=by simp; omega
  have e:(its.zip vs)[k]?=some (its[k],vs[k]):=by rw [n_ hz',Mq]
  simp [hk,this,GK,e]
 have hsz:vs.toArray.size=vs.length:=by simp
 by_cases h2:vs.toArray.size < 2
 · rw [if_pos h2,if_pos h2]
   refine a_ (d_ ?_)
   rw [KI]
   refine a_ (d_ ?_)
   dsimp only
   refine u0 (st:=MS general' (its.toArray.zip vs.toArray) #[] 7 none) hk ha hne hz (line64 (by rw [pz]; exact h64)) rfl ?_
   have:=h id ((its.toArray.zip vs.toArray).map (·.2)) s.toks (by rw [GC,pz]) (fun k hk=>by
    rw [GD,pat k hk]
    simp [hk,GK]) (gp O (fun k hk=>hk) (fun _ _ _ _ e=>e) (fun x y hxy hy=>by rw [hsz] at h2; omega)) (fun k hk=>hk)
   exact this
 · rw [if_neg h2,if_neg h2]
   rw [hsz] at h2
   refine a_ (zX hF hf fun b=>?_)
   refine a_ (EO (uY (J:=JT s s.heap) (E:=E) (Q:=fun _ st'=>∃ p',Bt (its.toArray.zip vs.toArray) blt p' (IV st')∧La st'=none) (p:=id) O
    (fun i j x y s1 E' ex ey J1=>?_)
    (st:=MS (ME b) (its.toArray.zip vs.toArray) #[] 7 none) ⟨rfl,fun _ _=>rfl,fun _ h=>h,fun _ _ _ _ e=>e,rfl,rfl,rfl⟩ (fun _ _=>rfl) (by rw [pz]; omega) (by rw [pz]; exact h64) (fun p' st' a1 a2=>⟨p',a1,a2⟩) s ⟨s.toks,j_ _,rfl⟩) ?_ fun _ _ e=>e)
   · obtain ⟨tk,htk,rfl⟩:=J1
     have at1:∀ (k:Nat) (z:LB),(its.toArray.zip vs.toArray)[k]?=some z→its[k]?=some z.1:=fun k z hz=>by
      have hk:k < vs.length:=by
       have:=(Fp.mp hz).1
       rwa [pz] at this
      rw [pat k hk] at hz
      cases hz
      have:k < its.length:=by omega
      simp [this,GK]
     obtain ⟨a1,c1,xs,ys,rs,e1',e2',t1,t2,it,eb⟩:=hC A i j x.1 y.1 (by omega) (at1 i x ex) (at1 j y ey)
     rw [e1',e2']
     exact ki (s:={ s with heap:=s.heap,toks:=tk }) b t1 t2 it ⟨⟨tk,htk,rfl⟩,eb⟩
   · rintro ⟨⟨⟩,st'⟩ s' ⟨⟨tk,_,rfl⟩,p',F,hfl⟩
     dsimp only
     have Fl:=F.lt
     have Fi:=F.inj
     have Fs:=F.so
     rw [pz] at Fl Fi Fs
     refine u0 (s:={ s with heap:=s.heap,toks:=tk }) hk ha hne hz (by rw [F.sz,pz]; exact line64 h64) hfl ?_
     refine h p' ((IV st').map (·.2)) tk (by rw [GC,F.sz,pz]) (fun k hk=>?_) (gp O Fl Fi Fs) Fl
     rw [GD,F.at' k (by rw [pz]; exact hk),pat _ (Fl k hk)]
     simp [Fl k hk,GK]
end
end TS
namespace FD
open PySem PySem.Spec PyProof.Rows L2 TS
section
variable {X:Cx} {pins:List (Addr×Obj)} {σ:L2.St} {H:Hp} {s:c_} {k:Nat} {f:Addr} {fd:FL} {ps:List Str} {F:List Dv→Option (Rs Dv)} {A':u_} {E:Value→c_→Prop}
theorem kn:∀ {ds:List Dv} (n:Nat),imms ds=true→imms (ds.take n)=true
 | [],n,_=>by simp [imms]
 | d :: ds,0,_=>by simp [imms]
 | d :: ds,n + 1,h=>by
  simp only [imms,on] at h
  simp only [List.take_succ_cons,imms,on]
  exact ⟨h.1,kn n h.2⟩
theorem zZ {a kS:Addr} {e1:Nat} {vs:List Value} {ws:List V} {ds:List Dv} {rows:List (List Dv)} {P:Lk→c_→Prop}
 (G:FnOk X.prog X.w X.K X.mg X.base CX0 k f fd ps (spF X.K F ps.length)) (hr:Room k A') (hfr:A'.frames=X.A.frames) (hb:Binds X.K fd ps []) (h1:ps.length=1)
 (I:Inv X (pins ++ [(a,ES "list" #[] e1)]) σ H s) (hk:H kS=some (.lst [])) (hne:kS≠a) (rv:Vals ws vs) (rw':Reps X.K H ds ws) (im:imms ds=true)
 (hkey:∀ (i:Nat) (d:Dv),ds[i]?=some d→∃ es,rows[i]?=some es∧F [d]=some (.ok (.tup es))) (hlen:rows.length=ds.length) (hok:ci rows=true) (imk:imms (rows.map Dv.tup)=true) (fpa:∀ H',H' a=none→nB X pins H' a)
 (h:∀ (s':c_) (H':Hp) (p:Nat→Nat) (out:Array Value) (c:Nat),Inv X pins σ H' s'→H' a=none→(∀ b u,b≠kS→H b=some u→H' b=some u)→s'.heap.get? a=some (ES "list" out c)→out.size=vs.length→(∀ k,k < vs.length→out[k]?=vs[p k]?) →
   (g_ vs.length).map p=av (fun i j=>!(fun i j=>ltL (bQ rows i) (bQ rows j)) j i) (g_ vs.length)→(∀ k,k < vs.length→p k < vs.length)→P (.done (.ret .none)) s') :
 l_ (s_ X.prog X.w) A' (ksk_rest a (.ref f) false vs.toArray e1 (.ref kS)) P E s:=by
 have hok':=hok
 simp only [ci,on,decide_eq_true_eq,E6] at hok'
 have hR:∀ r∈rows,sig r=sig (rows.headD [])∧tw r=true∧dE (sig r)=true:=fun r hr=>⟨(hok'.2 r hr).1.1,(hok'.2 r hr).1.2,(hok'.2 r hr).2⟩
 have hl2:ds.length=vs.length:=by have g1:=bE rw'; have g2:=rv.length; omega
 have h64:vs.length < 64:=by omega
 unfold ksk_rest
 refine a_ (II ?_)
 first
  | rw [List.forIn_toArray]
  | (rw [← HX]; simp only [HG])
  | rw [← HX]
 refine a_ (ksk_fold (fun i s'=>∃ H' zs,Inv X (pins ++ [(a,ES "list" #[] e1)]) σ H' s'∧H' kS=some (.lst zs)∧(∀ b u,b≠kS→H b=some u→H' b=some u)∧Reps X.K H' ((rows.map Dv.tup).take i) zs) vs 0 s ⟨H,[],I,hk,fun _ _ _ e=>e,rfl⟩ ?step ?done)
 case step =>
  rintro j x s' hx ⟨H',zs,I',hk',sm,rz⟩
  simp only [Hc] at rz ⊢
  have hj:j < vs.length:=(B_.mp hx).1
  have hjd:ds[j]?=some (ds[j]'(by omega)):=n_ (by omega)
  obtain ⟨es,er,eF⟩:=hkey j _ hjd
  have hjw:ws[j]?=some (ws[j]'(by have:=rv.length; omega)):=n_ (by have:=rv.length; omega)
  have hjl:j < ws.length:=by have:=rv.length; omega
  have hjl2:j < ds.length:=by omega
  obtain ⟨u,eu,ru⟩:=rv.get hjw
  rw [hx] at eu
  cases eu
  have tupk:∀ b ys,H b=some (.tup ys)→H' b=some (.tup ys):=fun b ys q=>sm b _ (fun z=>by rw [z,hk] at q; cases q) q
  have rd:Rep X.K H' ds[j] ws[j]:=Rep.tups tupk _ _ (dZ im hjd) (reps_at rw' j _ _ hjd hjw)
  refine a_ (HJ (EO (zY G hr hfr hb I' ru rd h1 eF (E:=fun _ _=>False)) (fun u' s2 he=>?_) fun _ _ z=>z.elim))
  obtain ⟨v',H2,I2,rv2,sm2,rp2⟩:=he
  dsimp only
  have hk2:H2 kS=some (.lst zs):=sm2 _ _ hk'
  obtain ⟨z,its,n,rvk,hlk,ek⟩:=I2.lstM hk2
  have hzl:zs.length≤62:=by have:=bE rz; simp at this; omega
  have hil:its.length≤62:=by have:=rvk.length; omega
  refine a_ (Hk ek rfl ?_ (by simp; exact line64 (by omega)) (by simp; omega))
  have tup2:∀ b ys,H2 b=some (.tup ys)→(upd H2 kS (.lst (zs ++ [v']))) b=some (.tup ys):=fun b ys q=>by
   rw [am (fun z=>by rw [z,hk2] at q; cases q)]; exact q
  obtain ⟨n2,ek2⟩:∃ n2,(s2.heap.update kS (ER (·.push u'))).get? kS=some (ES "list" (its.toArray.push u') n2):=⟨_,HQ (c:="list") ek (·.push u')⟩
  refine d_ ⟨rfl,upd H2 kS (.lst (zs ++ [v'])),zs ++ [v'],?_,ai,fun b u hb q=>?_,?_⟩
  · refine I2.write (t':=s2.toks) (x:=kS) (e:=kS) (o:=.lst (zs ++ [v'])) (by rw [hk2]; trivial) (.inl rfl) (fun b u hb q=>?_) ⟨_,ek2⟩ ?_
    · rw [FN _ _ _ _ hb]; exact q
    · refine ⟨by simp; exact line64 (by omega),its ++ [u'],n2,rvk.append (.cons rv2 .nil),?_⟩
      simpa [ES] using ek2
  · rw [am hb]
    exact sm2 _ _ (sm b u hb q)
  · have hrow:(rows.map Dv.tup).take (j + 1)=(rows.map Dv.tup).take j ++ [.tup es]:=by
     rw [List.take_add_one,Ex,er]
     rfl
    rw [hrow]
    have g1:Reps X.K (upd H2 kS (.lst (zs ++ [v']))) ((rows.map Dv.tup).take j) zs:=Reps.tups tup2 _ _ (kn j imk) (Reps.mono sm2 _ _ rz)
    have ime:imm (.tup es)=true:=dZ imk (n:=j) (by rw [Ex,er]; rfl)
    exact g1.append ⟨v',[],rfl,Rep.tups tup2 _ _ ime rp2,rfl⟩
 case done =>
  rintro s' ⟨H',zs,I',hk',sm,rz⟩
  have rz':Reps X.K H' (rows.map Dv.tup) zs:=by
   rw [List.take_of_length_le (by simp; omega)] at rz
   exact rz
  obtain ⟨z,its,n,rvk,hlk,ek⟩:=I'.lstM hk'
  have hzl:zs.length=vs.length:=by have:=bE rz'; simp at this; omega
  have hil:its.length=vs.length:=by have:=rvk.length; omega
  refine a_ (Iq ek rfl ?_)
  obtain ⟨fs,f1,f2⟩:=gs I' (fun r hr'=>(hR r hr').2) rz' rvk
  have hpa:=I'.pin (a,ES "list" #[] e1) (by simp)
  refine CQ (blt:=fun i j=>ltL (bQ rows i) (bQ rows j)) (c:=n) ek hpa.1 hne hil h64 (qp hR) f1 f2 (fun A2 i j x y hA ex ey=>?_) fun p out tk o1 o2 o3 o4=>?_
  · obtain ⟨a1,us1,t1,es1,q1,q2,q3,q4,q5,q6,q7⟩:=km I' i x rz' rvk ex
    obtain ⟨a2,us2,t2,es2,p1,p2,p3,p4,p5,p6,p7⟩:=km I' j y rz' rvk ey
    have m1:=hR es1 (Fy q1)
    have m2:=hR es2 (Fy p1)
    obtain ⟨rs,i1,i2⟩:=jc (A:=A2) (z:=true) I' (by have:=hr.un; omega) (fun _ _ e=>e) (fun _=>m1.2.1) (m1.1.trans m2.1.symm) m1.2.2 q4 p4 q5 p5
    refine ⟨a1,a2,t1.toArray,t2.toArray,rs,q3,p3,q7,p7,by simpa using i1,?_⟩
    have hsz:t1.toArray.size=t2.toArray.size:=by
     have k1:=q5.length
     have k2:=p5.length
     have k3:=bE q4
     have k4:=bE p4
     have k5:(sig es1).length=(sig es2).length:=by rw [m1.1,m2.1]
     simp [sig] at k5
     simp
     omega
    rw [hsz,decide_eq_false (FH _),i2,dF q1,dF p1]
  · obtain ⟨n2,ek2⟩:∃ n2,(s'.heap.update kS (ER fun _=>#[])).get? kS=some (ES "list" #[] n2):=⟨_,HQ (c:="list") ek (fun _=>(#[]:Array Value))⟩
    have W:=I'.write (t':=tk) (h':=s'.heap.update kS (ER fun _=>#[])) (x:=kS) (e:=kS) (o:=.lst []) (by rw [hk']; trivial) (.inl rfl) (fun b u hb q=>by rw [FN _ _ _ _ hb]; exact q) ⟨_,ek2⟩ ⟨EK _,[],n2,.nil,by simpa [ES] using ek2⟩
    have W2:=W.unpinned
    have hna:upd H' kS (.lst []) a=none:=by rw [am hne.symm]; exact hpa.2.1
    have ha2:(s'.heap.update kS (ER fun _=>#[])).get? a=some (ES "list" #[] e1):=by rw [FN _ _ _ _ hne.symm]; exact hpa.1
    obtain ⟨g0,g1,g2,g3⟩:=fpa _ hna
    have T:=W2.turned (t':=tk) (h':=(s'.heap.update kS (ER fun _=>#[])).update a (ER fun _=>out)) (it:=a) (fun b o hb q=>by rw [FN _ _ _ _ hb]; exact q) g0 g1 g3.1 g3.2.1 g3.2.2
    exact h _ _ p out _ T hna (fun b u hb q=>by rw [am hb]; exact sm b u hb q) (HQ ha2 fun _=>out) o1 o2 o3 o4
end
def dG (F:List Dv→Option (Rs Dv)):List Dv→Option (List (List Dv))
 | []=>some []
 | d :: r=>match F [d],dG F r with
  | some (.ok (.tup es)),some rs=>some (es :: rs)
  | _,_=>none
def gz (rows:List (List Dv)) (ds:List Dv):List Dv:=(av (fun a b=>!ltL b.1 a.1) (rows.zip ds)).map Prod.snd
def mX (F:List Dv→Option (Rs Dv)) (ds:List Dv):Option (Rs Dv):=match dG F ds with
 | some rows=>if ci rows=true∧imms ds=true∧imms (rows.map Dv.tup)=true then some (.ok (.lst (gz rows ds))) else none
 | none=>none
theorem iB {F:List Dv→Option (Rs Dv)}:∀ {ds:List Dv} {rows:List (List Dv)},dG F ds=some rows→rows.length=ds.length∧∀ (i:Nat) (d:Dv),ds[i]?=some d→∃ es,rows[i]?=some es∧F [d]=some (.ok (.tup es))
 | [],rows,h=>by cases h; exact ⟨rfl,fun i d e=>by simp at e⟩
 | d :: ds,rows,h=>by
  unfold dG at h
  split at h
  · rename_i es rs h1 h2
    cases h
    obtain ⟨g1,g2⟩:=iB h2
    refine ⟨by simp [g1],fun i d' e=>?_⟩
    cases i with
    | zero=>simp at e; subst e; exact ⟨es,rfl,h1⟩
    | succ i=>exact g2 i d' (by simpa using e)
  · cases h
theorem qr {rows:List (List Dv)} {ds:List Dv} (hl:rows.length=ds.length):(av (fun i j=>!(fun i j=>ltL (bQ rows i) (bQ rows j)) j i) (g_ ds.length)).map (fun i=>ds.getD i .non)=gz rows ds:=by
 have e:(g_ ds.length).map (fun i=>(bQ rows i,ds.getD i .non))=rows.zip ds:=by
  apply List.ext_getElem
  · simp [hl]
  · intro i h1 h2
    simp only [Ey,Ix] at h1
    have h1':i < rows.length:=by omega
    simp only [List.getElem_map,List.getElem_range,Mq]
    rw [dF (n_ h1')]
    simp [GK,h1]
 unfold gz
 rw [← e,← sort_map (le:=fun i j=>!(fun i j=>ltL (bQ rows i) (bQ rows j)) j i) (fun i=>(bQ rows i,ds.getD i .non)) _ fun x _ y _=>rfl,E_]
 rfl
section
variable {X:Cx} {pins:List (Addr×Obj)} {σ:L2.St} {H:Hp} {s:c_} {k:Nat} {f:Addr} {fd:FL} {ps:List Str} {F:List Dv→Option (Rs Dv)} {A':u_} {E:Value→c_→Prop}
theorem qt {h:Heap} {a:Addr} {o:Obj} (e:h.get? a=some o):bG [a] h=[(a,o)]:=by simp [bG,e]
theorem z0 {a:Addr} {n:Nat} {vs:List Value} {ws:List V} {ds:List Dv} {rows:List (List Dv)} {P:Lk→c_→Prop}
 (G:FnOk X.prog X.w X.K X.mg X.base CX0 k f fd ps (spF X.K F ps.length)) (hr:Room k A') (hfr:A'.frames=X.A.frames) (hb:Binds X.K fd ps []) (h1:ps.length=1)
 (I:Inv X pins σ H s) (ho:s.heap.get? a=some (ES "list" vs.toArray n)) (hna:H a=none) (fpa:∀ H',H' a=none→nB X pins H' a) (rv:Vals ws vs) (rw':Reps X.K H ds ws) (im:imms ds=true)
 (hkey:∀ (i:Nat) (d:Dv),ds[i]?=some d→∃ es,rows[i]?=some es∧F [d]=some (.ok (.tup es))) (hlen:rows.length=ds.length) (hok:ci rows=true) (imk:imms (rows.map Dv.tup)=true)
 (h:∀ (s':c_) (H':Hp) (p:Nat→Nat) (out:Array Value) (c:Nat),Inv X pins σ H' s'→H' a=none→Same H H'→s'.heap.get? a=some (ES "list" out c)→out.size=vs.length→(∀ k,k < vs.length→out[k]?=vs[p k]?) →
   (g_ vs.length).map p=av (fun i j=>!(fun i j=>ltL (bQ rows i) (bQ rows j)) j i) (g_ vs.length)→(∀ k,k < vs.length→p k < vs.length)→P (.done (.ret .none)) s') :
 l_ (s_ X.prog X.w) A' (ksk_tree a (.ref f) false) P E s:=by
 have h64:vs.length < 64:=by
  simp only [ci,on,decide_eq_true_eq] at hok
  have g1:=bE rw'; have g2:=rv.length
  omega
 have ha:a < s.heap.objs.size:=q_ ho
 obtain ⟨g0,g1,g2,g3⟩:=fpa _ hna
 unfold ksk_tree
 refine a_ (Iq ho rfl ?_)
 refine a_ (Hk ho rfl ?_ (line64 (by simpa using h64)))
 obtain ⟨e1,ho1⟩:∃ e1,(s.heap.update a (ER fun _=>(#[]:Array Value))).get? a=some (ES "list" #[] e1):=⟨_,HQ ho fun _=>#[]⟩
 have I1:=I.turned (t':=s.toks) (h':=s.heap.update a (ER fun _=>(#[]:Array Value))) (it:=a) (fun b o hb q=>by rw [FN _ _ _ _ hb]; exact q) g0 g1 g3.1 g3.2.1 g3.2.2
 refine a_ (JM ho1 rfl ?_)
 refine a_ (KZ ?_ (line64 (by simpa using h64)))
 refine a_ (JR ?_)
 refine FB ?_
 have I2:=I1.kept (t':=s.toks) (h':=(s.heap.update a (ER fun _=>(#[]:Array Value))).push (ES "tuple" vs.toArray 0)) fun b u q=>e_ _ q
 have sz2:((s.heap.update a (ER fun _=>(#[]:Array Value))).push (ES "tuple" vs.toArray 0)).objs.size=s.heap.objs.size + 1:=by rw [IL,G4]
 have fr:H ((s.heap.update a (ER fun _=>(#[]:Array Value))).push (ES "tuple" vs.toArray 0)).objs.size=none:=I2.hok.fresh (j_ _)
 have I3:=I2.laid (t':=s.toks) (h':=((s.heap.update a (ER fun _=>(#[]:Array Value))).push (ES "tuple" vs.toArray 0)).push (ES "list" #[] 0)) (o:=.lst []) (fun b u q=>e_ _ q) (j_ _) ⟨EK _,[],0,.nil,o_ _ rfl⟩
 have ho3:(((s.heap.update a (ER fun _=>(#[]:Array Value))).push (ES "tuple" vs.toArray 0)).push (ES "list" #[] 0)).get? a=some (ES "list" #[] e1):=e_ _ (e_ _ ho1)
 have hne:((s.heap.update a (ER fun _=>(#[]:Array Value))).push (ES "tuple" vs.toArray 0)).objs.size≠a:=by rw [sz2]; exact Jg (Gb ha)
 have I4:=I3.pinned (fp:=[a]) (fun b hb=>by
  have:b=a:=by simpa using hb
  subst this
  exact fpa _ (by rw [am hne.symm]; exact hna)) (fun b hb=>by
  have:b=a:=by simpa using hb
  subst this
  exact ⟨_,ho3,fun v z=>by cases z⟩)
 rw [qt ho3] at I4
 refine zZ G hr hfr hb h1 I4 ai hne rv (Reps.mono (aq fr _) _ _ rw') im hkey hlen hok imk fpa fun s' H' p out c J ja sm e o1 o2 o3 o4=>h s' H' p out c J ja (fun b u q=>sm b u (fun z=>?_) ?_) e o1 o2 o3 o4
 · rw [z,fr] at q; cases q
 · rw [am (fun z=>by rw [z,fr] at q; cases q)]; exact q
end
section
variable {X:Cx} {pins:List (Addr×Obj)} {σ:L2.St} {H:Hp} {s:c_} {k:Nat} {f:Addr} {fd:FL} {ps:List Str} {F:List Dv→Option (Rs Dv)} {E:Value→c_→Prop}
theorem tG {l:Addr} {vs:List Value} {ws:List V} {ds:List Dv} {rows:List (List Dv)} {Q:VK}
 (G:FnOk X.prog X.w X.K X.mg X.base CX0 k f fd ps (spF X.K F ps.length)) (hr:Room (k + 2) X.A) (hb:Binds X.K fd ps []) (h1:ps.length=1)
 (I:Inv X pins σ H s) (hcol:∀ Q':List Value→c_→Prop,(∀ h' tk,(∀ b o,s.heap.get? b=some o→h'.get? b=some o)→s.heap.objs.size≤h'.objs.size→Q' vs { s with heap:=h',toks:=tk })→l_ (s_ X.prog X.w) X.A.in1 (collect (.ref l)) Q' E s) (rv:Vals ws vs) (rw':Reps X.K H ds ws)
 (hkr:dG F ds=some rows) (hok:ci rows=true) (im:imms ds=true) (imk:imms (rows.map Dv.tup)=true)
 (q:∀ (L:Addr) (ws':List V) (H':Hp),Same H H'→H' L=some (.lst ws')→Reps X.K H' (gz rows ds) ws'→Q (.ref L) H') :
 l_ (s_ X.prog X.w) X.A (call (.builtin "sorted") [.ref l] [(b_ "key",.ref f)]) (EP X pins σ Q) E s:=by
 obtain ⟨hlen,hkey⟩:=iB hkr
 have hws:ds.length=ws.length:=bE rw'
 have hvs:ws.length=vs.length:=rv.length
 have h64:vs.length < 64:=by
  simp only [ci,on,decide_eq_true_eq] at hok
  omega
 refine call_function_entry_kw kind_sorted plain_sorted entry_sorted (ksk_s1 _ _) ?_
 unfold JL.«sorted»
 refine a_ (m:=checkCount "sorted" 1 1 _) (d_ ?_)
 refine a_ (hcol _ fun h1' tk1 up gr=>?_)
 refine a_ (JR ?_ (line64 h64))
 have I1:=I.kept (t':=tk1) (h':=h1'.push (ES "list" vs.toArray 0)) fun b u z=>e_ _ (up b u z)
 have hoL:(h1'.push (ES "list" vs.toArray 0)).get? h1'.objs.size=some (ES "list" vs.toArray 0):=o_ _ rfl
 have hfr:H h1'.objs.size=none:=I.hok.fresh (gr)
 have fpa:∀ H',H' h1'.objs.size=none→nB X pins H' h1'.objs.size:=fun H' hn=>I.fpOk (gr) hn
 refine a_ (FB (wpAny_call_entry_kw slot_list_sort ⟨_,hoL,rfl⟩ entry_list_sort ?body (ksk_l1 _ _)))
 case body =>
  show l_ (s_ X.prog X.w) X.A.in1.in1 (JL.«list.sort» ⟨[.ref h1'.objs.size],[(b_ "key",.ref f)]⟩) _ _ _
  rw [ksk_t1]
  refine z0 (s:={ s with heap:=h1'.push (ES "list" vs.toArray 0),toks:=tk1 }) G (hr.in1.in1) rfl hb h1 I1 hoL hfr fpa rv rw' im hkey hlen hok imk fun s' H' p out cc J ja sm e o1 o2 o3 o4=>⟨_,rfl,?_⟩
  refine d_ ⟨_,rfl,?_⟩
  obtain ⟨g0,g1,g2,g3,g4,g5⟩:=fpa _ ja
  have J2:=J.pinned (fp:=[h1'.objs.size]) (fun b hb'=>by
   have:b=h1'.objs.size:=by simpa using hb'
   subst this
   exact fpa _ ja) (fun b hb'=>by
   have:b=h1'.objs.size:=by simpa using hb'
   subst this
   exact ⟨_,e,fun v z=>by cases z⟩)
  rw [qt e] at J2
  have hV:Vals ((g_ vs.length).map fun k=>ws.getD (p k) .non) out.toList:=by
   refine iz (by simp [o1]) fun i v u ev eu=>?_
   have hi:i < vs.length:=by
    have:=(B_.mp eu).1
    simp [o1] at this
    omega
   have eu':out[i]?=some u:=by simpa using eu
   rw [o2 i hi] at eu'
   rw [Ex,Gd hi] at ev
   simp only [Ge,GP] at ev
   have hp:p i < ws.length:=by rw [hvs]; exact o4 i hi
   have e1:ws[p i]?=some v:=by rw [n_ hp,← ev]; simp [GK,hp]
   obtain ⟨u',e2,r2⟩:=rv.get e1
   rw [e2] at eu'
   cases eu'
   exact r2
  have hR:Reps X.K H' (gz rows ds) ((g_ vs.length).map fun k=>ws.getD (p k) .non):=by
   have hn:vs.length=ds.length:=by omega
   rw [← qr hlen,← hn,← o3,E_]
   refine iy (by simp) fun i d v ed ev=>?_
   have hi:i < vs.length:=by
    have:=(B_.mp ed).1
    simpa using this
   rw [Ex,Gd hi] at ed ev
   simp only [Ge,GP,HN] at ed ev
   have hp:p i < ws.length:=by rw [hvs]; exact o4 i hi
   have hp':p i < ds.length:=by omega
   refine reps_at (Reps.mono sm _ _ rw') (p i) d v ?_ ?_
   · rw [n_ hp',← ed]; simp [GK,hp']
   · rw [n_ hp,← ev]; simp [GK,hp]
  have e':(h1'.objs.size,ES "list" out cc)=(h1'.objs.size,wo out.toList cc):=by simp [ES,wo]
  rw [e'] at J2
  obtain ⟨ha',J3⟩:=Inv.retrack J2 hV (line64 (by simp; omega)) (fun o' z=>by
   exfalso
   rcases g3 with g3 | g3
   · exact absurd (I.ok) (fun _=>by
      have:=IS (h:=X.s₀.heap) (a:=h1'.objs.size) (EM I.sz (gr))
      rw [this] at z
      cases z)
   · have:=IS (h:=X.s₀.heap) (a:=h1'.objs.size) g3
     rw [this] at z
     cases z) g5
  refine ⟨.ref h1'.objs.size,_,J3,rfl,q _ _ _ (fun b u z=>?_) ai (Reps.mono (aq ja _) _ _ hR)⟩
  exact aq ja _ b u (sm b u z)
end
section
variable {X:Cx} {k' n:Nat} {ps:List Str} {x:Str} {p p2 kp pos:Pos} {e:Expr} {F:List Dv→Option (Rs Dv)} {g:FnA}
end
end FD
namespace FD
open PySem PySem.Spec PyProof.Rows L2
section
variable {X:Cx} {p pos:Pos} {e:Expr} {es:List Expr} {ga:FnA}
end
end FD
namespace TS
open PySem PySem.Spec PyProof.Rows L2 FD
end TS
namespace FD
open PySem PySem.Spec PyProof.Rows L2 TS
section
variable {X:Cx}
end
end FD
namespace FD
open PySem PySem.Spec PyProof.Rows L2
def ah (X:Cx) (N:List Str) (scope:Scope) (C:Addr) (s:c_) (H:Hp) (fp:List Addr):Cx :=
 { X with N:=N,s₀:=s,H₀:=H,env:=LV scope (EX (C + 1) scope.names (fX scope.names X.env [])) C X.env,outer:=X.stack,stack:=X.stack,ex:=fp,fn:=fun y=>scope.names.lookup y == some .cell,pn:=[],xe:=fun _ _=>False }
structure gH (osc scope:Scope) (cs:List (Str×Nat)) (N:List Str):Prop where
 kind:scope.kind=.function
 one:∀ y∈scope.names,y.2=.cell→scope.names.lookup y.1=some .cell
 names:∀ y∈scope.names,y.2=.local→scope.names.lookup y.1=some .local
 free:∀ y∈scope.names,y.2=.free→osc.names.lookup y.1=some .cell∨osc.names.lookup y.1=some .free
 caps:∀ c∈cs,N[c.2]?=some c.1∧scope.names.lookup c.1=some .free
theorem ei:∀ (names:List (Str×G3)) (lo:Nat) (acc:List (Str×Addr)),EX lo names acc=EX lo names [] ++ acc
 | [],_,_=>rfl
 | (n,k) :: r,lo,acc=>by
  unfold EX
  split
  · rw [ei r (lo + 1) ((n,lo) :: acc),ei r (lo + 1) [(n,lo)],L_]; rfl
  · exact ei r lo acc
theorem qu:∀ {names:List (Str×G3)} {lo:Nat} {n:Str} {c:Addr},(n,c)∈EX lo names []→(n,Gj)∈names
 | [],_,_,_,h=>(nomatch h)
 | (m,k) :: r,lo,n,c,h=>by
  unfold EX at h
  split at h
  · rename_i hk
    rw [ei] at h
    rcases A_.mp h with q | q
    · exact k_ _ (qu q)
    · have e:n=m:=by simp at q; exact q.1
      have ek:k=.cell:=by simpa using hk
      subst e ek
      exact h_
  · exact k_ _ (qu h)
theorem mY:∀ {names:List (Str×G3)} {lo:Nat} {n:Str},(n,Gj)∈names→((EX lo names []).lookup n).isSome=true
 | [],_,_,h=>(nomatch h)
 | (m,k) :: r,lo,n,h=>by
  unfold EX
  rcases pi.mp h with e | q
  · cases e
    rw [if_pos (by decide),ei,He]
    cases hl:(EX (lo + 1) r []).lookup m with
    | some _=>rfl
    | none=>simp
  · split
    · rw [ei,He]
      have:=mY (lo:=lo + 1) q
      cases hl:(EX (lo + 1) r []).lookup n with
      | some _=>rfl
      | none=>rw [hl] at this; cases this
    · exact mY q
theorem wO {M:LA} {A:u_} {E:Value→c_→Prop} {s:c_} {scope:Scope} {globals:Addr} {cl:List (Str×Addr)} {qual:Str} {env:Env} {Q:Env→c_→Prop} (hk:scope.kind=.function)
 (hQ:Q (newEnv scope s.heap.objs.size globals (EX (s.heap.objs.size + 1) scope.names cl) qual none .none (some env) LF) { s with heap:=pushCells (s.heap.push { cls:=.type "dict",data:=.dict #[] }) scope.names }) :
 l_ M A (K0 scope globals cl [] qual none .none (some env)) Q E s:=by
 simp only [K0,LK,if_true]
 refine a_ (wpAny_alloc ?_)
 refine a_ (wpAny_layCells _ (fun name kind cells=>by cases hkc:kind == Gj <;> simp [hkc]) _ _ _ _ ?_)
 rw [show ({ s with heap:=s.heap.push { cls:=.type "dict",data:=.dict #[] } }:c_).heap.objs.size=s.heap.objs.size + 1 from Fw ..]
 refine a_ ?_
 rw [Le]
 exact d_ (d_ hQ)
theorem qv {X:Cx} {pins:List (Addr×Obj)} {σ:L2.St} {H:Hp} {s:c_} {scope:Scope} {ns:List Str} {cs:List (Str×Nat)} {fp:List Addr} {h₁:Heap} {C:Addr} {t':Nat} (ok:gH X.env.scope scope cs X.N) (I:Inv X pins σ H s) (hfp:∀ b∈fp,nB X pins H b) (hlt:∀ b∈fp,b < s.heap.objs.size)
 (hC:s.heap.objs.size≤C) (hns:h₁.Ns C fun _=>none) (old:∀ b o,s.heap.get? b=some o→h₁.get? b=some o) (hck:CellsOk h₁ (C + 1) (EX (C + 1) scope.names [])) :
 Inv (ah X (ns ++ cs.map (·.1)) scope C s H fp) [] (jU ns.length cs σ) H { s with heap:=h₁,toks:=t' }:=by
 have cl1:∀ n c,(fX scope.names X.env []).lookup n=some c→X.env.cells.lookup n=some c:=fun n c e=>by
  rcases ic _ _ e with q | ⟨q1,q2⟩
  · simp at q
  · obtain ⟨c',e'⟩:=I.ok.has n (ok.free _ q1 rfl)
    rw [e'] at q2
    rw [e',q2] <;> rfl
 have lk:∀ n c,(ah X (ns ++ cs.map (·.1)) scope C s H fp).env.cells.lookup n=some c→(n,c)∈EX (C + 1) scope.names []∨((n,Gj) ∉ scope.names∧(fX scope.names X.env []).lookup n=some c):=fun n c e=>by
  have e':(EX (C + 1) scope.names (fX scope.names X.env [])).lookup n=some c:=e
  rw [ei,He] at e'
  cases hl:(EX (C + 1) scope.names []).lookup n with
  | some c'=>rw [hl] at e'; cases e'; exact .inl (mem_of_lookup hl)
  | none =>
   rw [hl] at e'
   refine .inr ⟨fun hm=>?_,e'⟩
   have:=mY (lo:=C + 1) hm
   rw [hl] at this
   cases this
 have lk2:∀ n c,(n,Gj) ∉ scope.names→(fX scope.names X.env []).lookup n=some c→(ah X (ns ++ cs.map (·.1)) scope C s H fp).env.cells.lookup n=some c:=fun n c hm e=>by
  show (EX (C + 1) scope.names (fX scope.names X.env [])).lookup n=some c
  rw [ei,He]
  cases hl:(EX (C + 1) scope.names []).lookup n with
  | some c'=>exact absurd (qu (mem_of_lookup hl)) hm
  | none=>exact e
 have big:∀ n c,(n,c)∈EX (C + 1) scope.names []→s.heap.objs.size < c:=fun n c hm=>Ez (Nat.lt_succ_of_le hC) (hck.empty n c hm).2
 have low:∀ n c,(fX scope.names X.env []).lookup n=some c→c < s.heap.objs.size:=fun n c e=>by
  obtain ⟨v,o,ho,_⟩:=I.cell n c (cl1 n c e)
  exact q_ ho
 have inj:∀ y z c,(ah X (ns ++ cs.map (·.1)) scope C s H fp).env.cells.lookup y=some c→(ah X (ns ++ cs.map (·.1)) scope C s H fp).env.cells.lookup z=some c→y=z:=fun y z c e1 e2=>by
  rcases lk y c e1 with p | ⟨_,p⟩ <;> rcases lk z c e2 with q | ⟨_,q⟩
  · exact name_of_addr hck.apart p q
  · exact absurd (Jh (big y c p) (low z c q)) (FH _)
  · exact absurd (Jh (big z c q) (low y c p)) (FH _)
  · exact I.ok.inj y z c (cl1 y c p) (cl1 z c q)
 refine ⟨⟨I.ok.mod,ok.kind,I.ok.glob,I.ok.blt,hC,inj,fun y hy=>?_,fun y c hfn e=>?_,I.ok.hd,I.ok.frames,.inl rfl,fun b hb=>⟨fun z=>?_,fun y c e=>?_⟩,I.bs,EM I.ok.bsz I.sz,fun b o e hb=>?_,fun b hb z=>?_,I.stack,I.stkFree⟩,
  rfl,I.bare,Un.kept old,⟨_,hns,fun i y v h1 h2 h3=>?_⟩,fun y c e=>?_,I.hok.fresh hC,fun y c e=>?_,fun p hp=>absurd (show p∈([]:List (Addr×Obj)) from hp) (by simp),I.hok.kept old,by simp [jU,ah]⟩
 · have hm:(y,Gj)∈scope.names∨(y,F7)∈scope.names:=by
    rcases hy with hy | hy
    · rcases fg hy with q | ⟨_,q⟩
      · exact .inl q
      · exact .inr q
    · rcases fg hy with q | ⟨q,_⟩
      · exact .inr q
      · cases q
   by_cases hcl:(y,Gj)∈scope.names
   · obtain ⟨c,hc'⟩:=GW.mp (mY (lo:=C + 1) hcl)
     refine ⟨c,?_⟩
     show (EX (C + 1) scope.names (fX scope.names X.env [])).lookup y=some c
     rw [ei,He,hc']
     rfl
   · obtain ⟨c,hc'⟩:=GW.mp (iQ (env:=X.env) scope.names [] (hm.resolve_left hcl))
     exact ⟨c,lk2 y c hcl hc'⟩
 · have hfn':scope.names.lookup y=some .cell:=by simpa [ah] using hfn
   rcases lk y c e with p | ⟨p,_⟩
   · exact Iu (big y c p)
   · exact absurd (cw hfn') p
 · have:=hlt b hb
   rw [z] at this
   exact absurd (Ez this hC) (FH _)
 · rcases lk y c e with p | ⟨_,p⟩
   · exact fun z=>absurd (Jh (big y c p) (z ▸ hlt b hb)) (FH _)
   · exact (hfp b hb).2.2.2.2.1 y c (cl1 y c p)
 · rcases (hfp b hb).2.2.2.1 with z | z
   · exact I.ok.noex b o e z
   · exact absurd (Ez (q_ e) (EM I.ok.bsz z)) (FH _)
 · rcases pi.mp (I.stkSub b z) with q | q
   · exact (hfp b hb).2.1 q
   · exact (hfp b hb).2.2.1 q
 · obtain ⟨k,rfl,h4⟩:=jV h2
   have h1':(ns ++ cs.map (·.1))[ns.length + k]?=some y:=h1
   rw [Fz (by simp)] at h1'
   simp only [Kf] at h1'
   rw [Ex] at h1'
   cases hc:cs[k]? with
   | none=>rw [hc] at h1'; simp at h1'
   | some c =>
    rw [hc] at h1'
    have ey:c.1=y:=by simpa using h1'
    subst ey
    rw [Ex,hc] at h4
    simp only [Ge,GP] at h4
    have h2':σ[c.2]?=some (some v):=by
     cases q:σ[c.2]? with
     | none=>rw [q] at h4; simp at h4
     | some o=>rw [q] at h4; simp at h4; rw [h4]
    obtain ⟨hN,hf⟩:=ok.caps c (Fy hc)
    have hv:=ok.free _ (cw hf) rfl
    obtain ⟨mm,_,hl⟩:=I.loc
    obtain ⟨u,r,l⟩:=hl c.2 c.1 v hN h2' (.inr hv)
    refine ⟨u,r,.inr ⟨fj hf,?_⟩⟩
    rcases l with ⟨l,_⟩ | ⟨_,a,ha,o,ho,hd⟩
    · have l':X.env.scope.names.lookup c.1=some .local:=l
      rcases hv with z | z
      · rw [l'] at z; cases z
      · rw [l'] at z; cases z
    · obtain ⟨a',ha'⟩:=GW.mp (iQ (env:=X.env) scope.names [] (cw hf))
      have e2:=cl1 _ _ ha'
      rw [ha] at e2
      cases e2
      exact ⟨a,lk2 _ _ (fun hm=>by have z:=ok.one _ hm rfl; rw [hf] at z; cases z) ha',o,old _ _ ho,hd⟩
 · rcases lk y c e with p | ⟨_,p⟩
   · exact ⟨none,(hck.empty y c p).1⟩
   · obtain ⟨v,o,ho,hd⟩:=I.cell y c (cl1 y c p)
     exact ⟨v,o,old _ _ ho,hd⟩
 · rcases lk y c e with p | ⟨_,p⟩
   · exact I.hok.fresh (Iu (big y c p))
   · exact I.freeC y c (cl1 y c p)
def z3 (X:Cx) (ns:List Str) (cs:List (Str×Nat)) (scope:Scope) (D:Addr) (s2:c_) (H2:Hp) (fp:List Addr) (tn:Nat→Heap→Prop) (ds ys:List Dv) (b:Dv→Ev→Option Ev) (tst:Option FnB) (fe:FnE) (ρ:Ev) (m:Nat) (s':c_):Prop :=
 ∃ i σ' H' es vs its,m=ds.length - i∧i≤ds.length∧Inv (ah X (ns ++ cs.map (·.1)) scope (D + 1) s2 H2 fp) [] σ' H' s'∧Envs X.K H' σ' (eE ns.length cs ρ)∧tn i s'.heap∧(∀ b∈fp,H' b=none)∧H' D=none∧LAt s'.heap D its∧Vals vs its∧Reps X.K H' es vs∧es.length≤i∧Same H2 H' ∧
  (match jT b tst fe (eE ns.length cs ρ) (ds.drop i) with | some zs=>es ++ zs=ys | none=>False)
theorem iC {X:Cx} {pins:List (Addr×Obj)} {σ:L2.St} {tg elt iter:Expr} {ifs:List Expr} {scope:Scope} {pos:Pos} {ns:List Str} {tst:Option FnB} {fe:FnE} {b:Dv→Ev→Option Ev} {js:List Nat} (cs:List (Str×Nat)) (ok:gH X.env.scope scope cs X.N) (hc:X.calm=true)
 (htg:∀ C s H fp,FG (ah X (ns ++ cs.map (·.1)) scope C s H fp) tg b) (helt:∀ C s H fp,FE (ah X (ns ++ cs.map (·.1)) scope C s H fp) elt fe) (hifs:∀ C s H fp,sn (ah X (ns ++ cs.map (·.1)) scope C s H fp) ifs tst)
 (hback:∀ ρ d ρ',b d (eE ns.length cs ρ)=some ρ'→fgt js ρ'=eE ns.length cs ρ)
 {ρ:Ev} {s2:c_} {it:Addr} {fp:List Addr} {tn:Nat→Heap→Prop} {J:It} {H2:Hp} (E:Envs X.K H2 σ ρ) (I2:Inv X pins σ H2 s2) (T:uA X.prog X.w X.K tg J fp it tn) (st2:tn 0 s2.heap) (f2:∀ b∈fp,nB X pins H2 b) {ds ys:List Dv} (wk:WkG X.K J ds H2) (hdl:ds.length≤100000) (hyl:ys.length≤100000) (hm:jT b tst fe (eE ns.length cs ρ) ds=some ys)
 {RR:Value→Addr→Mh→c_→Prop}
 (hRR:∀ (D C:Addr) (s6:c_) (H5:Hp) (vs:List V) (m6:Str→Option Value),Inv X pins σ (upd H5 D (.lst vs)) s6→H5 D=none→Same H2 H5→Reps X.K H5 ys vs→s6.heap.Ns C m6→H5 C=none→C≠D→s2.heap.objs.size≤C→RR (.ref D) C (.ok .next) s6) :
 l_ (s_ X.prog X.w) X.A (newList []) (fun acc s₃=>l_ (s_ X.prog X.w) X.A (K0 scope X.env.globals (fX scope.names X.env []) [] X.env.qual none .none (some X.env)) (fun cenv s₄ =>
  Jd (s_ X.prog X.w) X.A (.compStart (.ListComp elt [⟨tg,iter,ifs,0⟩] scope pos) 0 (.ref it) acc { cenv with scope:=relabel scope X.env }) (RR acc cenv.locals) s₄) X.xe s₃) X.xe s2:=by
 have fplt:∀ b∈fp,b < s2.heap.objs.size:=fun b hb=>by
  obtain ⟨o,ho,_⟩:=T.obj _ _ st2 b hb
  exact q_ ho
 refine Fq (wO ok.kind ?_)
 dsimp only
 generalize hH2:s2.heap.push { cls:=.type "list",dict:=none,data:=.seq ([]:List Value).toArray }=P2
 obtain ⟨D,hD⟩:∃ D,s2.heap.objs.size=D:=⟨_,rfl⟩
 have hC:P2.objs.size=D + 1:=by rw [← hH2,Fw,hD]
 rw [hC,hD]
 obtain ⟨h₁,hh₁⟩:∃ h,h=pushCells (P2.push { cls:=.type "dict",data:=.dict #[] }) scope.names:=⟨_,rfl⟩
 rw [← hh₁]
 have kp:∀ b o,P2.get? b=some o→h₁.get? b=some o:=fun b o e=>by rw [hh₁]; exact pushCells_keeps _ _ b o (e_ _ e)
 have old:∀ b o,s2.heap.get? b=some o→h₁.get? b=some o:=fun b o e=>kp b o (hH2 ▸ e_ _ e)
 have hacc:LAt h₁ D []:=⟨0,kp _ _ (by rw [← hH2,← hD]; exact o_ _ rfl)⟩
 have hns:h₁.Ns (D + 1) fun _=>none:=by
  rw [hh₁,← hC]
  exact (Heap.Ns.new P2 (.type "dict")).keeps (pushCells_keeps _ _)
 have hck:CellsOk h₁ (D + 1 + 1) (EX (D + 1 + 1) scope.names []):=by
  have q:=cellsFrom_ok scope.names (P2.push { cls:=.type "dict",data:=.dict #[] }) (D + 1 + 1) [] ⟨fun _ _ hm=>(nomatch hm),Hs⟩ (by rw [Fw,hC]; exact j_ _)
  rw [Fw,hC,← hh₁] at q
  exact q
 have I4:Inv (ah X (ns ++ cs.map (·.1)) scope (D + 1) s2 H2 fp) [] (jU ns.length cs σ) H2 { s2 with heap:=h₁ }:=qv (t':=s2.toks) ok I2 f2 fplt (by rw [hD]; exact G7 D) hns old hck
 have E4:Envs X.K H2 (jU ns.length cs σ) (eE ns.length cs ρ):=pG ns.length cs E
 have HD:H2 D=none:=I2.hok.fresh (HB hD)
 have fpD:∀ b∈fp,b≠D:=fun b hb=>vT (hD ▸ fplt b hb)
 have loop:∀ s4:c_,s4={ s2 with heap:=h₁ } →
  Jd (s_ X.prog X.w) X.A (.compLoop (.ListComp elt [⟨tg,iter,ifs,0⟩] scope pos) 0 (.ref it) (.ref D) (LV scope (EX (D + 1 + 1) scope.names (fX scope.names X.env [])) (D + 1) X.env)) (RR (.ref D) (D + 1)) s4:=by
  rintro s4 rfl
  refine jW (fun k s'=>z3 X ns cs scope D s2 H2 fp tn ds ys b tst fe ρ k s') ?_ ds.length ⟨0,jU ns.length cs σ,H2,[],[],[],by simp,EK _,I4,E4,T.keep _ _ _ st2 fun b hb o e=>old b o e,fun b hb=>(f2 b hb).1,HD,hacc,.nil,rfl,j_ _,.refl H2,by rw [List.drop_zero,hm]; rfl⟩
  rintro k0 s5 ⟨i,σ5,H5,es,vs,its,rfl,hi5,I5,E5,t5,fr5,D5,l5,v5,r5,hel,e5,hz⟩
  have nC:∀ b∈fp,b≠D + 1:=fun b hb=>yZ (hD ▸ fplt b hb)
  have DL:D≠(ah X (ns ++ cs.map (·.1)) scope (D + 1) s2 H2 fp).env.locals:=Dw
  have Dcell:∀ y c,(ah X (ns ++ cs.map (·.1)) scope (D + 1) s2 H2 fp).env.cells.lookup y=some c→c≠D:=fun y c e z=>by
   obtain ⟨v,o,ho,hd⟩:=I5.cell y c e
   obtain ⟨n,q⟩:=l5
   subst z
   rw [q] at ho
   cases ho
   cases hd
  have Dfs:D ∉ (ah X (ns ++ cs.map (·.1)) scope (D + 1) s2 H2 fp).fs:=fun z=>by
   rcases pi.mp (I2.stkSub D z) with q | q
   · have z2:=I2.lt
     rw [hD] at z2
     exact vT z2 q.symm
   · exact I2.nofs (HB hD) q
  have Dp:nB (ah X (ns ++ cs.map (·.1)) scope (D + 1) s2 H2 fp) [] H5 D:=⟨D5,DL,Dfs,.inr (HB hD),Dcell,fun p hp=>absurd (show p∈([]:List (Addr×Obj)) from hp) (by simp)⟩
  have Dob:∀ b∈[D],∃ o,s5.heap.get? b=some o∧∀ v,o.data≠.cell v:=fun b hb=>by
   have e:b=D:=by simpa using hb
   subst e
   obtain ⟨n,q⟩:=l5
   exact ⟨_,q,fun v z=>by cases z⟩
  have I5p:Inv (ah X (ns ++ cs.map (·.1)) scope (D + 1) s2 H2 fp) (bG [D] s5.heap) σ5 H5 s5:=by
   have q:=I5.pinned (fp:=[D]) (fun b hb=>by
    have e:b=D:=by simpa using hb
    subst e; exact Dp) Dob
   rw [KQ] at q
   exact q
  have ner:∀ b∈fp,∀ p∈bG [D] s5.heap,p.1≠b:=fun b hb p hp z=>by
   have e:p.1=D:=by simpa using (fQ hp).1
   exact fpD b hb (z.symm.trans e)
  have fp5':∀ b∈fp,nB (ah X (ns ++ cs.map (·.1)) scope (D + 1) s2 H2 fp) (bG [D] s5.heap) H5 b:=fun b hb=>⟨fr5 b hb,nC b hb,I4.ok.exfs b hb,.inl hb,(I4.ok.exf b hb).2,fun p hp=>ner b hb p (by simpa [ah] using hp)⟩
  have lenR:vs.length=es.length:=r5.length
  have lenV:vs.length=its.length:=v5.length
  by_cases hlt:i < ds.length
  · refine thn (T.item (ah X (ns ++ cs.map (·.1)) scope (D + 1) s2 H2 fp) rfl rfl rfl hc i (bG [D] s5.heap) s5 σ5 H5 _ I5p fp5' t5 (wk.go i H5 e5 hlt)) fun r s6 ⟨u,hr,h6⟩=>?_
    subst hr
    refine thn h6 fun _ s7 ⟨xv,H7,I7,r7,y7,t7,fr7⟩=>?_
    obtain ⟨e57,d,hd,rd⟩:=wk.yld i H5 xv H7 e5 hlt y7
    rw [c4 hd] at hz
    have I7p:=I7.pinned (fp:=fp) (fun b hb=>⟨fr7 b hb,nC b hb,I4.ok.exfs b hb,.inl hb,(I4.ok.exf b hb).2,fun p hp=>ner b hb p (by simpa [ah] using hp)⟩) (T.obj _ _ t7)
    have fin:∀ {σ8:L2.St} {H8:Hp} {s8:c_},Inv (ah X (ns ++ cs.map (·.1)) scope (D + 1) s2 H2 fp) (bG [D] s5.heap ++ bG fp s7.heap) σ8 H8 s8→tn (i + 1) s8.heap∧(∀ b∈fp,H8 b=none)∧H8 D=none∧LAt s8.heap D its:=fun {σ8 H8 s8} I8=>by
     refine ⟨T.keep _ _ _ t7 fun b hb o e=>(I8.pin (b,o) (rl _ (rl _ (bt hb e)))).1,fun b hb=>?_,?_,?_⟩
     · obtain ⟨o,e,_⟩:=T.obj _ _ t7 b hb
       exact (I8.pin (b,o) (rl _ (rl _ (bt hb e)))).2.1
     · obtain ⟨n,q⟩:=l5
       exact (I8.pin (D,_) (rl _ (E7 _ (bt (by simp) q)))).2.1
     · obtain ⟨n,q⟩:=l5
       exact ⟨n,(I8.pin (D,_) (rl _ (E7 _ (bt (by simp) q)))).1⟩
    unfold jT at hz
    match hb:b d (eE ns.length cs ρ) with
    | none=>rw [hb] at hz; exact hz.elim
    | some ρd =>
     rw [hb] at hz
     dsimp only at hz
     refine EO ((htg (D + 1) s2 H2 fp).h _ s7 σ5 H7 xv u d (eE ns.length cs ρ) ρd I7p r7 rd (E5.mono e57) hb) (fun _ s8 ⟨σ8,H8,I8,e78,E8⟩=>?_) fun _ _ z=>Fu z
     have e58:=e57.trans e78
     have back:∀ {σ9:L2.St} {H9:Hp},Envs X.K H9 σ9 ρd→Envs X.K H9 σ9 (eE ns.length cs ρ):=fun {σ9 H9} E9=>by
      have q:=Envs.fgt js E9
      rw [hback ρ d ρd hb] at q
      exact q
     have took:∀ {H9:Hp} {s9:c_},Inv (ah X (ns ++ cs.map (·.1)) scope (D + 1) s2 H2 fp) (bG [D] s5.heap ++ bG fp s7.heap) σ8 H9 s9→Same H8 H9 →
      (match (match fe ρd with | some (.ok y)=>(match jT b tst fe (eE ns.length cs ρ) (ds.drop (i + 1)) with | some ys=>some (y :: ys) | none=>none) | _=>none) with | some zs=>es ++ zs=ys | none=>False) →
      l_ (s_ X.prog X.w) X.A (eval elt (LV scope (EX (D + 1 + 1) scope.names (fX scope.names X.env [])) (D + 1) X.env)) (fun xw s₄ =>
       l_ (s_ X.prog X.w) X.A (call (.builtin "list.append") [.ref D,xw]) (fun _ s₅=>∃ k,k < ds.length - i∧z3 X ns cs scope D s2 H2 fp tn ds ys b tst fe ρ k s₅) (Kp (s_ X.prog X.w) X.A (LV scope (EX (D + 1 + 1) scope.names (fX scope.names X.env [])) (D + 1) X.env) fun e s'=>RR (.ref D) (D + 1) (.error e) s') s₄) (Kp (s_ X.prog X.w) X.A (LV scope (EX (D + 1 + 1) scope.names (fX scope.names X.env [])) (D + 1) X.env) fun e s'=>RR (.ref D) (D + 1) (.error e) s') s9:=fun {H9 s9} I9 e9 hz9=>by
      match hfe:fe ρd,hz9 with
      | none,hz9=>exact hz9.elim
      | some (.exc c),hz9=>exact hz9.elim
      | some (.ok y),hz9 =>
       refine EO ((helt (D + 1) s2 H2 fp).h _ s9 σ8 H9 (fun v H10=>Same H9 H10∧Rep X.K H10 y v) I9 ⟨ρd,E8.mono e9,by rw [hfe]; exact fun v H10 e10 r10=>⟨e10,r10⟩⟩) (fun w s10 ⟨yv,H10,I10,rw10,e10,r10⟩=>?_) fun _ _ z=>Fu z
       obtain ⟨t10,fr10,D10,l10⟩:=fin I10
       refine nJ l10 (by omega) fun h11 l11 k11=>?_
       have I10':Inv (ah X (ns ++ cs.map (·.1)) scope (D + 1) s2 H2 fp) (bG fp s7.heap) σ8 H10 s10:=I10.pins_of fun p hp=>I10.pin p (rl _ (rl _ hp))
       have I11:Inv (ah X (ns ++ cs.map (·.1)) scope (D + 1) s2 H2 fp) (bG fp s7.heap) σ8 H10 { s10 with heap:=h11 }:=I10'.turned (t':=s10.toks) k11 D10 DL (.inr (HB hD)) Dcell fun p hp z=>by
        have hp':p∈bG fp s7.heap:=by simpa [ah] using hp
        exact fpD p.1 (fQ hp').1 z
       have e80:=e9.trans e10
       refine ⟨ds.length - (i + 1),by omega,i + 1,σ8,H10,es ++ [y],vs ++ [yv],its ++ [w],rfl,hlt,I11.pins_of fun p hp=>absurd hp (by simp),back (E8.mono e80),T.keep _ _ _ t10 fun b hb o e=>k11 b o (fpD b hb) e,fr10,D10,l11,v5.append (.cons rw10 .nil),(Reps.mono (e58.trans e80) _ _ r5).append ⟨yv,[],rfl,r10,rfl⟩,by rw [Fc,KY]; omega,e5.trans (e58.trans e80),?_⟩
       match hm2:jT b tst fe (eE ns.length cs ρ) (ds.drop (i + 1)),hz9 with
       | none,hz9=>exact hz9.elim
       | some zs,hz9=>dsimp only at hz9 ⊢; rw [L_]; exact hz9
     have hif:=hifs (D + 1) s2 H2 fp
     cases tst with
     | none =>
      cases (show ifs=[] from hif)
      exact wpAny_tests_nil (by rw [if_pos rfl]; exact took I8 (.refl H8) hz)
     | some t =>
      obtain ⟨c,rfl,hct⟩:=hif
      match htt:t ρd,hz with
      | none,hz=>simp only [htt] at hz
      | some (.exc c),hz=>simp only [htt] at hz
      | some (.ok true),hz =>
       simp only [htt] at hz
       refine wpAny_tests_one (EO (hct.h _ s8 σ8 H8 (fun b H9=>b=true∧Same H8 H9) I8 ⟨_,E8,by rw [htt]; exact fun H9 e9=>⟨rfl,e9⟩⟩) (fun b s9 ⟨H9,I9,hb,e9⟩=>?_) fun _ _ z=>Fu z)
       subst hb
       rw [if_pos rfl]
       exact took I9 e9 hz
      | some (.ok false),hz =>
       simp only [htt] at hz
       refine wpAny_tests_one (EO (hct.h _ s8 σ8 H8 (fun b H9=>b=false∧Same H8 H9) I8 ⟨_,E8,by rw [htt]; exact fun H9 e9=>⟨rfl,e9⟩⟩) (fun b s9 ⟨H9,I9,hb,e9⟩=>?_) fun _ _ z=>Fu z)
       subst hb
       rw [if_neg p_]
       obtain ⟨t9,fr9,D9,l9⟩:=fin I9
       exact ⟨ds.length - (i + 1),by omega,i + 1,σ8,H9,es,vs,its,rfl,hlt,I9.pins_of fun p hp=>absurd hp (by simp),back (E8.mono e9),t9,fr9,D9,l9,v5,Reps.mono (e58.trans e9) _ _ r5,by omega,e5.trans (e58.trans e9),hz⟩
  · have hi':i=ds.length:=by omega
    subst hi'
    rw [HC] at hz
    have hz':es ++ []=ys:=hz
    rw [Ja] at hz'
    subst hz'
    refine thn (T.done (ah X (ns ++ cs.map (·.1)) scope (D + 1) s2 H2 fp) rfl rfl rfl hc ds.length (bG [D] s5.heap) s5 σ5 H5 _ I5p fp5' t5 (wk.stop H5 e5)) fun r s6 ⟨hr,I6⟩=>?_
    subst hr
    have l6:LAt s6.heap D its:=by
     obtain ⟨n,q⟩:=l5
     exact ⟨n,(I6.pin (D,_) (rl _ (bt (by simp) q))).1⟩
    obtain ⟨m6,n6,_⟩:=I6.loc
    have C6:H5 (D + 1)=none:=I6.free
    have new:ObjOk X.prog X.w (upd H5 D (.lst vs)) s6.heap D (.lst vs):=by
     obtain ⟨n,q⟩:=l6
     exact ⟨by rw [lenR]; exact bn hyl,its,n,v5,q⟩
    have u6:Un (L2.frs X.stack) fp H2 H5 s2.heap s6.heap:=I6.base
    have nD:∀ b o,s2.heap.get? b=some o→b≠D:=fun b o e=>by
     have hb:b < D:=by rw [← hD]; exact q_ e
     exact vT hb
    have u7:Un (L2.frs X.stack) fp H2 (upd H5 D (.lst vs)) s2.heap s6.heap:=⟨u6.keep,u6.slot,fun b o e n hx=>by rw [am (nD b o e)]; exact u6.free b o e n hx,u6.there,fun b xs q=>by
     have q':=u6.tups b xs q
     rw [am (ak q' D5)]; exact q',fun b o u q=>by
     have q':=u6.frzs b o u q
     rw [am (ak q' D5)]; exact q',fun b ps q=>by
     obtain ⟨more,q'⟩:=u6.tbls b ps q
     exact ⟨more,by rw [am (ak q' D5)]; exact q'⟩⟩
    have I7:Inv X pins σ (upd H5 D (.lst vs)) s6:=I2.call' (s':=s6) (ch:=fp) I6.os u7 (HOk.add I6.hok D5 C6 (fun b u _ q=>q) new) I6.bare fun b hb=>⟨(f2 b hb).2.2.2.1,(f2 b hb).2.1,(f2 b hb).2.2.2.2.1,(f2 b hb).2.2.2.2.2⟩
    exact hRR D (D + 1) s6 H5 vs m6 I7 D5 e5 r5 n6 C6 (GE Dw) (by rw [hD]; exact G7 D)
 exact codeAny_compStart_list (loop _ rfl) (T.self _ 0 _ _ _ (T.keep _ _ _ st2 fun b hb o e=>old b o e) (loop _ rfl))
theorem tH {X:Cx} {tg elt iter:Expr} {ifs:List Expr} {scope:Scope} {pos:Pos} {src:FnA} {tst:Option FnB} {fe:FnE} {b:Dv→Ev→Option Ev} (osc:Scope) (N ns:List Str) (js:List Nat) (cs:List (Str×Nat)) (hosc:X.env.scope=osc) (hN:X.N=N) (ok:gH osc scope cs N) (hcl:Jm scope X.env=pure (fX scope.names X.env [])) (hc:X.calm=true)
 (hback:∀ ρ d ρ',b d (eE ns.length cs ρ)=some ρ'→fgt js ρ'=eE ns.length cs ρ)
 (hi:FIG X tg iter src) (htg:∀ C s H fp,FG (ah X (ns ++ cs.map (·.1)) scope C s H fp) tg b) (helt:∀ C s H fp,FE (ah X (ns ++ cs.map (·.1)) scope C s H fp) elt fe) (hifs:∀ C s H fp,sn (ah X (ns ++ cs.map (·.1)) scope C s H fp) ifs tst)
 (hs:∀ x,EJ iter X.env x=pure x:=by intro _; kernel_rfl):FE X (.ListComp elt [⟨tg,iter,ifs,0⟩] scope pos) (bI ns.length cs src b tst fe):=by
 subst hosc hN
 constructor
 intro pins s σ H Q I h
 obtain ⟨ρ,E,o⟩:=h
 match ho:bI ns.length cs src b tst fe ρ with
 | none=>rw [ho] at o; exact o.elim
 | some r =>
  rw [ho] at o
  rw [eval_ListComp]
  have key:OutG X H (src ρ) fun J H'=>∃ ds ys,Same H H'∧WkG X.K J ds H'∧ds.length≤100000∧ys.length≤100000∧jT b tst fe (eE ns.length cs ρ) ds=some ys∧(∀ v H'',Same H' H''→Rep X.K H'' (.lst ys) v→Q v H''):=by
   rcases Ct ho with ⟨c,e1,e2⟩ | ⟨ds,ys,e1,e2,l1,l2,e3⟩
   · subst e2; rw [e1]; exact o
   · subst e3; rw [e1]; exact fun J H' e wk=>⟨ds,ys,e,wk,l1,l2,e2,fun v H'' e2 r=>o v H'' (e.trans e2) r⟩
  refine JS (use:=none) rfl hs hcl ok.kind ok.names (thn (hi.h pins s σ H _ I ⟨ρ,E,key⟩) fun v s1 h1=>thn h1 fun itv s2 h2=>?_)
  obtain ⟨it,fp,tn,J,H2,e,I2,T,st2,f2,ds,ys,e12,wk,hdl,hyl,hm,hQ⟩:=h2
  subst e
  refine iC cs ok hc htg helt hifs hback (E.mono e12) I2 T st2 f2 wk hdl hyl hm (RR:=fun acc C=>compPost (s_ X.prog X.w) X.A X.xe none (EP X pins σ Q) acc C) fun D C s6 H5 vs m6 I6 D5 e5 r5 n6 C6 CD hC=>?_
  refine ⟨m6,n6,fun h7 sb7=>?_⟩
  have Cn:(upd H5 D (.lst vs)) C=none:=by rw [am CD]; exact C6
  obtain ⟨q0,q1,q2,q3,q4,q5⟩:=I2.fpOk hC Cn
  have I7:Inv X pins σ (upd H5 D (.lst vs)) { s6 with heap:=h7 }:=I6.turned (t':=s6.toks) (fun b o hb e=>sb7.extBut b o hb e) q0 q1 q3 q4 q5
  exact ⟨.ref D,_,I7,rfl,hQ _ _ (e5.trans (aq D5 _)) ⟨D,vs,rfl,ai,Reps.mono (aq D5 _) _ _ r5⟩⟩
theorem mZ {X:Cx} {tg elt iter:Expr} {ifs:List Expr} {scope:Scope} {pos:Pos} {src:FnA} {tst:Option FnB} {fe:FnE} {b:Dv→Ev→Option Ev} {y:Str} {py spos:Pos} (i:Nat) (hnd:X.N.Nodup) (hiy:X.N[i]?=some y) (hxy:Loc X.env.scope y) (hfy:X.fn y=true∨X.env.scope.names.lookup y=some .local)
 (osc:Scope) (N ns:List Str) (js:List Nat) (cs:List (Str×Nat)) (hosc:X.env.scope=osc) (hN:X.N=N) (ok:gH osc scope cs N) (hcl:Jm scope X.env=pure (fX scope.names X.env [])) (hc:X.calm=true)
 (hback:∀ ρ d ρ',b d (eE ns.length cs ρ)=some ρ'→fgt js ρ'=eE ns.length cs ρ)
 (hi:FIG X tg iter src) (htg:∀ C s H fp,FG (ah X (ns ++ cs.map (·.1)) scope C s H fp) tg b) (helt:∀ C s H fp,FE (ah X (ns ++ cs.map (·.1)) scope C s H fp) elt fe) (hifs:∀ C s H fp,sn (ah X (ns ++ cs.map (·.1)) scope C s H fp) ifs tst)
 (hsw:Fk (.ListComp elt [⟨tg,iter,ifs,0⟩] scope pos) (some (.Name y py)) spos.line X.env=pure true:=by kernel_rfl)
 (hs:∀ x,EJ iter X.env x=pure x:=by intro _; kernel_rfl):PS X (.Assign [.Name y py] (.ListComp elt [⟨tg,iter,ifs,0⟩] scope pos) spos) (tC X i (bI ns.length cs src b tst fe)):=by
 subst hosc hN
 intro pins s σ H D0 I h
 obtain ⟨ρ,E,o⟩:=h
 match ho:bI ns.length cs src b tst fe ρ with
 | none=>rw [ho] at o; exact o.elim
 | some r =>
  rw [ho] at o
  have key:OutG X H (src ρ) fun J H'=>∃ ds ys,Same H H'∧WkG X.K J ds H'∧ds.length≤100000∧ys.length≤100000∧jT b tst fe (eE ns.length cs ρ) ds=some ys∧(∀ H5 p vs,Same H' H5→H5 p=none→Reps X.K H5 ys vs→D0.nx (σ.set i (some (.ref p))) (upd H5 p (.lst vs))):=by
   rcases Ct ho with ⟨c,e1,e2⟩ | ⟨ds,ys,e1,e2,l1,l2,e3⟩
   · subst e2; rw [e1]; exact o
   · subst e3; rw [e1]; obtain ⟨ys',ey,o⟩:=o; cases ey; exact fun J H' e wk=>⟨ds,ys,e,wk,l1,l2,e2,fun H5 p vs e3 hp r=>o H5 p vs (e.trans e3) hp r⟩
  rw [exec_Assign_Name_used _ _ _ _ hsw]
  refine a_ (wpAny_standAt (a_ ?_))
  show l_ _ X.A (do let _ ← comprehension (.ListComp elt [⟨tg,iter,ifs,0⟩] scope pos) scope X.env _ (newList []) false (eval iter X.env) (some (Hn (.Name y py) X.env))) _ _ s
  refine a_ (EO (JS (use:=some (Hn (.Name y py) X.env)) (Q:=fun _ s'=>SP X pins D0 .next s') rfl hs hcl ok.kind ok.names
   (thn (hi.h pins s σ H _ I ⟨ρ,E,key⟩) fun v s1 h1=>thn h1 fun itv s2 h2=>?_)) (fun _ s' hq=>d_ (d_ hq)) fun _ _ e=>e)
  obtain ⟨it,fp,tn,J,H2,e,I2,T,st2,f2,ds,ys,e12,wk,hdl,hyl,hm,hQ⟩:=h2
  subst e
  refine iC cs ok hc htg helt hifs hback (E.mono e12) I2 T st2 f2 wk hdl hyl hm (RR:=fun acc C=>compPost (s_ X.prog X.w) X.A X.xe (some (Hn (.Name y py) X.env)) (fun _ s'=>SP X pins D0 .next s') acc C) fun D C s6 H5 vs m6 I6 D5 e5 r5 n6 C6 CD hC=>?_
  have Cn:(upd H5 D (.lst vs)) C=none:=by rw [am CD]; exact C6
  have FC:=I2.fpOk hC Cn
  obtain ⟨oC,es,ep,hoC,hdC,rC⟩:=id n6
  have I6p:=I6.pinned (fp:=[C]) (fun b hb=>by
   have e:b=C:=by simpa using hb
   subst e; exact FC) (fun b hb=>by
   have e:b=C:=by simpa using hb
   subst e
   exact ⟨oC,hoC,fun v z=>by rw [hdC] at z; cases z⟩)
  refine thn (cq hnd hiy hxy hfy _ s6 σ _ (.ref D) (.ref D) (fun σ' H'=>σ'=σ.set i (some (.ref D))∧H'=upd H5 D (.lst vs)) I6p rfl ⟨rfl,rfl⟩) fun _ s8 ⟨σ8,H8,I8,e1,e2⟩=>?_
  subst e1 e2
  have hC8:=(I8.pin (C,oC) (rl _ (rl _ (bt (by simp) hoC)))).1
  refine ⟨m6,⟨oC,es,ep,hC8,hdC,rC⟩,fun h9 sb9=>?_⟩
  have I8':Inv X pins (σ.set i (some (.ref D))) (upd H5 D (.lst vs)) s8:=I8.unpinned
  obtain ⟨q0,q1,q2,q3,q4,q5⟩:=FC
  have I9:Inv X pins (σ.set i (some (.ref D))) (upd H5 D (.lst vs)) { s8 with heap:=h9 }:=I8'.turned (t':=s8.toks) (fun b o hb e=>sb9.extBut b o hb e) q0 q1 q3 q4 q5
  exact ⟨_,_,I9,hQ H5 D vs e5 D5 r5⟩
abbrev cT:=List (Str×Nat×List Str×(List Dv→Option (Rs Dv)))
theorem ko {β:Type} {x y:Str} {e e':β} {T:List (Str×β)} (h:((y,e) :: T).lookup x=some e'):(x=y∧e'=e)∨T.lookup x=some e':=by
 rw [ET] at h
 split at h
 · rename_i hb
   exact .inl ⟨Lo hb,by cases h; rfl⟩
 · exact .inr h
section
variable {P:Program} {w:w_} {K:ck} {mg:Str→Option Value} {base:Heap} {T:cT} {y:Str} {k:Nat} {ps:List Str} {F:List Dv→Option (Rs Dv)}
structure HA (P:Program) (w:w_) (K:ck) (mg:Str→Option Value) (base:Heap) (T:cT):Prop where
 h:∀ x e,T.lookup x=some e→Has P w K mg base x e.1 e.2.1 e.2.2
structure HAE (P:Program) (w:w_) (K:ck) (mg:Str→Option Value) (base:Heap) (T:cT):Prop where
 h:∀ x e,T.lookup x=some e→Eg P w K mg base x e.1 e.2.1 e.2.2
structure HAM (P:Program) (w:w_) (K:ck) (mg:Str→Option Value) (base:Heap) (T:cT):Prop where
 h:∀ x e,T.lookup x=some e→Eh P w K mg base x e.1 e.2.1 e.2.2
theorem z4:HA P w K mg base []:=⟨fun _ _ h=>by cases h⟩
theorem ay (h:Has P w K mg base y k ps F) (t:HA P w K mg base T):HA P w K mg base ((y,k,ps,F) :: T):=⟨fun x e q=>by
 rcases ko q with ⟨rfl,rfl⟩ | q
 · exact h
 · exact t.h x e q⟩
abbrev xT:=List (Str×Option Dv)
def cN (s:String):Str×Option Dv:=(b_ s,none)
def cI (s:String) (i:Int):Str×Option Dv:=(b_ s,some (.int i))
def cS (s z:String):Str×Option Dv:=(b_ s,some (.str (b_ z)))
def Ek (mg:Str→Option Value) (x:Str):Option Dv→Prop
 | none=>mg x=none
 | some (.int i)=>∃ t,mg x=some (.int i t)
 | some (.str z)=>∃ t,mg x=some (.str z t)
 | _=>False
structure MA (mg:Str→Option Value) (C:xT):Prop where
 h:∀ x o,C.lookup x=some o→Ek mg x o
theorem MA.no {C:xT} {x:Str} (h:MA mg C) (e:C.lookup x=some none):mg x=none:=h.h x none e
def CS (K:ck) (q:Str×Option Dv):Bool:=match q.2,GO K EA q.1 with
 | none,some none=>true
 | some (.int i),some (some (.int j _))=>i == j
 | some (.str z),some (some (.str y _))=>z == y
 | _,_=>false
theorem z5 {h:Heap} (X:K.In h) (G:h.Ns EA mg):∀ (C:xT),C.all (CS K)=true→MA mg C
 | [],_=>⟨fun x o q=>by cases q⟩
 | (y,o) :: C,e=>⟨fun x o' q=>by
  rw [Gw,on] at e
  rcases ko q with ⟨rfl,rfl⟩ | q
  · have h1:=e.1
    unfold CS at h1
    dsimp only at h1
    split at h1
    · rename_i e1
      exact PySem.W.mg_none_of X G e1
    · rename_i i j t e1
      have hij:i=j:=Lo h1
      subst hij
      exact ⟨t,JV X G e1⟩
    · rename_i z y t e1
      have hij:z=y:=Lo h1
      subst hij
      exact ⟨t,JV X G e1⟩
    · cases h1
  · exact (z5 X G C e.2).h x o' q⟩
end
section
variable {X:Cx} {T:cT} {C:xT} {k' n:Nat} {x:Str} {p pos:Pos} {e:Expr} {es:List Expr} {F:List Dv→Option (Rs Dv)} {g:FnA}
theorem tI (hT:HA X.prog X.w X.K X.mg X.base T) (hr:Room k' X.A) (hF:(T.lookup x).map (fun q=>q.2.2)=some F) (ha:FA X (e :: es) g) (hk:((T.lookup x).all fun q=>Nat.ble q.1 k' && JP n q.2.1.length)=true:=by kernel_rfl) (hg:X.env.kindOf x=some .globalImplicit:=by kernel_rfl) (hdb:(x == ("__debug__":Str))=false:=by kernel_rfl)
 (he:f_ (e :: es) X.env=(false,eval e X.env) :: f_ es X.env:=by kernel_rfl) (hpl:(EY pos (f_ es X.env)).any (·.1)=false:=by kernel_rfl) :
 FE X (.Call (.Name x p) (e :: es) [] pos) (ae F n g):=by
 cases hq:T.lookup x with
 | none=>rw [hq] at hF; cases hF
 | some q =>
  rw [hq] at hF hk
  cases hF
  rw [KO,on] at hk
  exact sk q.1 q.2.1 q.2.2 (hT.h x q hq) hr (IF hk.1) hg ha (IG hk.2) hdb he hpl
theorem CT {i:Int} (hM:MA X.mg C) (hl:C.lookup x=some (some (.int i))) (hg:X.env.kindOf x=some .globalImplicit:=by kernel_rfl) (hd:(x == ("__debug__":Str))=false:=by kernel_rfl):FE X (.Name x pos) (fC (.int i)) :=
 let ⟨_,h⟩:=hM.h x _ hl
 vK hg h hd
theorem CU {z:Str} (hM:MA X.mg C) (hl:C.lookup x=some (some (.str z))) (hg:X.env.kindOf x=some .globalImplicit:=by kernel_rfl) (hd:(x == ("__debug__":Str))=false:=by kernel_rfl):FE X (.Name x pos) (fC (.str z)) :=
 let ⟨_,h⟩:=hM.h x _ hl
 vL hg h hd
def ndB:List Str→Bool
 | []=>true
 | x :: r=>!(r.contains x) && ndB r
theorem c9:∀ {l:List Str},ndB l=true→l.Nodup
 | [],_=>List.nodup_nil
 | x :: r,h=>by
  unfold ndB at h
  rw [on] at h
  refine Gf.2 ⟨fun hx=>?_,c9 h.2⟩
  have h1:=h.1
  rw [List.contains_iff_mem.2 hx] at h1
  cases h1
def dH (sc:Scope) (x:Str):Bool:=match sc.names.lookup x with
 | some .local=>true
 | some .cell=>true
 | _=>false
theorem bJ {sc:Scope} {x:Str} (h:dH sc x=true):Loc sc x:=by
 unfold dH at h
 split at h
 · exact .inl ‹_›
 · exact .inr ‹_›
 · cases h
def xU (osc scope:Scope) (cs:List (Str×Nat)) (N:List Str):Bool :=
 decide (scope.kind=.function) && decide (∀ y∈scope.names,y.2=.cell→scope.names.lookup y.1=some .cell) && decide (∀ y∈scope.names,y.2=.local→scope.names.lookup y.1=some .local) && decide (∀ y∈scope.names,y.2=.free→osc.names.lookup y.1=some .cell∨osc.names.lookup y.1=some .free) && decide (∀ c∈cs,N[c.2]?=some c.1∧scope.names.lookup c.1=some .free)
theorem qw {osc scope:Scope} {cs:List (Str×Nat)} {N:List Str} (h:xU osc scope cs N=true):gH osc scope cs N:=by
 unfold xU at h
 simp only [on,decide_eq_true_eq] at h
 exact ⟨h.1.1.1.1,h.1.1.1.2,h.1.1.2,h.1.2,h.2⟩
theorem lkc {env:Env}:∀ {names:List (Str×G3)} {x:Str},names.lookup x=some .cell →
 (names.map fun (n,k)=>if (k == F7 && env.scope.kind == .function && env.kindOf n == some .cell) then (n,Gj) else (n,k)).lookup x=some .cell
 | [],_,h=>by simp at h
 | (n,k) :: r,x,h=>by
  rw [ET] at h
  rw [t_]
  cases hx:x == n with
  | true =>
   rw [hx] at h
   cases h
   simp [ET,hx]
  | false =>
   rw [hx] at h
   have ih:=lkc (env:=env) h
   dsimp only
   split
   · rw [ET,hx]; exact ih
   · rw [ET,hx]; exact ih
theorem fgL {X:Cx} {N:List Str} {scope:Scope} {C:Addr} {s:c_} {H:Hp} {fp:List Addr} {x:Str} (h:dH scope x=true):Loc (ah X N scope C s H fp).env.scope x∧((ah X N scope C s H fp).fn x=true∨(ah X N scope C s H fp).env.scope.names.lookup x=some .local):=by
 rcases bJ h with h | h
 · exact ⟨.inl (K1 h),.inr (K1 h)⟩
 · exact ⟨.inr (lkc h),.inl (by show (scope.names.lookup x == some .cell)=true; rw [h]; rfl)⟩
end
section
variable {X:Cx} {elt iter:Expr} {ifs:List Expr} {scope:Scope} {pos px py pt spos:Pos} {src:FnA} {tst:Option FnB} {fe:FnE} {cs:List (Str×Nat)} {x y z:Str} {i:Nat} {k:Nat}
theorem fgA {N:List Str} (C:Addr) (s:c_) (H:Hp) (fp:List Addr) (hnd:ndB N=true) (hx:N[0]?=some x) (hl:dH scope x=true):FG (ah X N scope C s H fp) (.Name x px) (gN 0) :=
 wc 0 (c9 hnd) hx (fgL hl).1 (fgL hl).2
theorem CV (hi:FIG X (.Name x px) iter src) (helt:∀ C s H fp,FE (ah X (x :: cs.map (·.1)) scope C s H fp) elt fe) (hifs:∀ C s H fp,sn (ah X (x :: cs.map (·.1)) scope C s H fp) ifs tst)
 (hok:xU X.env.scope scope cs X.N=true:=by kernel_rfl) (hcl:Jm scope X.env=pure (fX scope.names X.env []):=by kernel_rfl) (hc:X.calm=true:=by kernel_rfl) (hnd:ndB (x :: cs.map (·.1))=true:=by kernel_rfl) (hl:dH scope x=true:=by kernel_rfl)
 (hs:∀ x,EJ iter X.env x=pure x:=by intro _; kernel_rfl):FE X (.ListComp elt [⟨.Name x px,iter,ifs,0⟩] scope pos) (ba cs src tst fe) :=
 (wL (cs:=cs) (src:=src) (tst:=tst) (fe:=fe)) ▸ tH X.env.scope X.N [x] [0] cs rfl rfl (qw hok) hcl hc (zi _) hi (fun C s H fp=>fgA C s H fp hnd rfl hl) helt hifs hs
theorem CW (hi:FIG X (.Name x px) iter src) (helt:∀ C s H fp,FE (ah X (x :: cs.map (·.1)) scope C s H fp) elt fe) (hifs:∀ C s H fp,sn (ah X (x :: cs.map (·.1)) scope C s H fp) ifs tst)
 (hN:ndB X.N=true) (hiy:X.N[i]?=some y) (hxy:dH X.env.scope y=true) (hfy:X.fn y=true)
 (hok:xU X.env.scope scope cs X.N=true) (hcl:Jm scope X.env=pure (fX scope.names X.env [])) (hc:X.calm=true) (hnd:ndB (x :: cs.map (·.1))=true) (hl:dH scope x=true)
 (hsw:Fk (.ListComp elt [⟨.Name x px,iter,ifs,0⟩] scope pos) (some (.Name y py)) spos.line X.env=pure true)
 (hs:∀ x,EJ iter X.env x=pure x):PS X (.Assign [.Name y py] (.ListComp elt [⟨.Name x px,iter,ifs,0⟩] scope pos) spos) (tC X i (bI 1 cs src (gN 0) tst fe)) :=
 mZ i (c9 hN) hiy (bJ hxy) (.inl hfy) X.env.scope X.N [x] [0] cs rfl rfl (qw hok) hcl hc (zi _) hi (fun C s H fp=>fgA C s H fp hnd rfl hl) helt hifs hsw hs
theorem CY (hi:FIG X (.Name x px) iter src) (helt:∀ C s H fp,FE (ah X (x :: cs.map (·.1)) scope C s H fp) elt fe) (hifs:∀ C s H fp,sn (ah X (x :: cs.map (·.1)) scope C s H fp) ifs tst)
 (hsw:Fk (.ListComp elt [⟨.Name x px,iter,ifs,0⟩] scope pos) (some (.Name y py)) spos.line X.env=pure true)
 (hN:ndB X.N=true:=by kernel_rfl) (hiy:X.N[i]?=some y:=by kernel_rfl) (hxy:dH X.env.scope y=true:=by kernel_rfl) (hfy:X.fn y=true:=by kernel_rfl)
 (hok:xU X.env.scope scope cs X.N=true:=by kernel_rfl) (hcl:Jm scope X.env=pure (fX scope.names X.env []):=by kernel_rfl) (hc:X.calm=true:=by kernel_rfl) (hnd:ndB (x :: cs.map (·.1))=true:=by kernel_rfl) (hl:dH scope x=true:=by kernel_rfl)
 (hs:∀ x,EJ iter X.env x=pure x:=by intro _; kernel_rfl):FS X (.Assign [.Name y py] (.ListComp elt [⟨.Name x px,iter,ifs,0⟩] scope pos) spos) (dN i (bI 1 cs src (gN 0) tst fe)) :=
 qc (CW hi helt hifs hN hiy hxy hfy hok hcl hc hnd hl hsw hs) ka
theorem El {N:List Str} (C:Addr) (s:c_) (H:Hp) (fp:List Addr) (hc:X.calm=true) (hnd:ndB N=true) (hx:N[0]?=some x) (hz:N[1]?=some z) (hl:dH scope x=true) (hl2:dH scope z=true)
 (a1:(C_ [.Name x px,.Name z py] (ah X N scope C s H fp).env).map (·.2)=Hn (.Name x px) (ah X N scope C s H fp).env :: (C_ [.Name z py] (ah X N scope C s H fp).env).map (·.2)) (a2:(C_ [.Name z py] (ah X N scope C s H fp).env).map (·.2)=Hn (.Name z py) (ah X N scope C s H fp).env :: (C_ [] (ah X N scope C s H fp).env).map (·.2))
 (a3:(C_ [.Name x px,.Name z py] (ah X N scope C s H fp).env).length=2) (a4:(C_ [.Name x px,.Name z py] (ah X N scope C s H fp).env).findIdx? (·.1)=none):FG (ah X N scope C s H fp) (.Tuple [.Name x px,.Name z py] k pt) (gP 0 1) :=
 wd 0 1 hc (c9 hnd) hx (fgL hl).1 (fgL hl).2 hz (fgL hl2).1 (fgL hl2).2 a1 a2 a3 a4
theorem CZ {p2:Pos} (hi:FIG X (.Tuple [.Name x px,.Name z p2] k pt) iter src) (helt:∀ C s H fp,FE (ah X (x :: z :: cs.map (·.1)) scope C s H fp) elt fe) (hifs:∀ C s H fp,sn (ah X (x :: z :: cs.map (·.1)) scope C s H fp) ifs tst)
 (hsw:Fk (.ListComp elt [⟨.Tuple [.Name x px,.Name z p2] k pt,iter,ifs,0⟩] scope pos) (some (.Name y py)) spos.line X.env=pure true)
 (hN:ndB X.N=true:=by kernel_rfl) (hiy:X.N[i]?=some y:=by kernel_rfl) (hxy:dH X.env.scope y=true:=by kernel_rfl) (hfy:X.fn y=true:=by kernel_rfl)
 (hok:xU X.env.scope scope cs X.N=true:=by kernel_rfl) (hcl:Jm scope X.env=pure (fX scope.names X.env []):=by kernel_rfl) (hc:X.calm=true:=by kernel_rfl) (hnd:ndB (x :: z :: cs.map (·.1))=true:=by kernel_rfl) (hl:dH scope x=true:=by kernel_rfl) (hl2:dH scope z=true:=by kernel_rfl)
 (hs:∀ x,EJ iter X.env x=pure x:=by intro _; kernel_rfl):FS X (.Assign [.Name y py] (.ListComp elt [⟨.Tuple [.Name x px,.Name z p2] k pt,iter,ifs,0⟩] scope pos) spos) (dN i (bI 2 cs src (gP 0 1) tst fe)) :=
 qc (mZ i (c9 hN) hiy (bJ hxy) (.inl hfy) X.env.scope X.N [x,z] [0,1] cs rfl rfl (qw hok) hcl hc (Cu _) hi (fun C s H fp=>El C s H fp hc hnd rfl rfl hl hl2 rfl rfl rfl rfl) helt hifs hsw hs) ka
end
section
variable {X:Cx} {N:List Str} {scope:Scope} {c:Expr} {t:FnB}
theorem tJ:∀ C s H fp,sn (ah X N scope C s H fp) [] none:=fun _ _ _ _=>rfl
theorem tK (h:∀ C s H fp,FT (ah X N scope C s H fp) c t):∀ C s H fp,sn (ah X N scope C s H fp) [c] (some t):=fun C s H fp=>⟨_,rfl,h C s H fp⟩
end
section
variable {X:Cx} {a b c e st ix tg iter:Expr} {fa fb fs fi:FnE} {pos p2 pos' py apos cpos pt p1 lp ps:Pos} {i j k kk:Nat} {js:List Nat} {x y:Str} {src g:FnA} {fS:FnS} {fO:dC} {body sts:List Stmt} {es:List Expr} {is:List Nat}
theorem z6 (ha:FE X a fa) (hb:FE X b fb) (hs:∀ o i,Mt b false o i=operate [o,i] (Kq o i):=by intro _ _; kernel_rfl):FE X (.Subscript a b pos) (f2 ixD fa fb):=Cf ha hb hs
theorem wP (he:FE X e fa) (hN:ndB X.N=true:=by kernel_rfl) (hi:X.N[i]?=some x:=by kernel_rfl) (hx:dH X.env.scope x=true:=by kernel_rfl) (hf:X.fn x=true:=by kernel_rfl) (hs:Fk e (some (.Name x pos')) pos.line X.env=pure false:=by kernel_rfl):FS X (.Assign [.Name x pos'] e pos) (dN i fa) :=
 yU i (c9 hN) hi (bJ hx) he hs (.inl hf)
theorem wQ (he:FE X e fa) (hex:X.ex=[]:=by kernel_rfl) (hij:JP i j=false:=by kernel_rfl) (hN:ndB X.N=true:=by kernel_rfl) (hi:X.N[j]?=some x:=by kernel_rfl) (hx:dH X.env.scope x=true:=by kernel_rfl) (hf:X.fn x=true:=by kernel_rfl) (hs:Fk e (some (.Name x pos')) pos.line X.env=pure false:=by kernel_rfl):FO1 X i (.Assign [.Name x pos'] e pos) (c7 j fa) :=
 zx hex j (Ga hij) (c9 hN) hi (bJ hx) he hs (.inl hf)
theorem tL (hg:FA X es g) (hr:FOs X i sts fO) (hN:ndB X.N=true:=by kernel_rfl) (hi:X.N[i]?=some x:=by kernel_rfl) (hx:dH X.env.scope x=true:=by kernel_rfl) (hf:X.fn x=true:=by kernel_rfl) (hs:Fk (.List es lp) (some (.Name x pos')) pos.line X.env=pure false:=by kernel_rfl):FSs X (.Assign [.Name x pos'] (.List es lp) pos :: sts) (uR i g fO) :=
 ww (c9 hN) hi (bJ hx) hg hr hs (.inl hf)
theorem wR (hp:Ia (s_ X.prog X.w) X.A X.env X.xe) (hi:FI X (.Name x py) iter src) (hb:FSs X body fS) (hc:X.calm=true:=by kernel_rfl) (hN:ndB X.N=true:=by kernel_rfl) (hx:X.N[i]?=some x:=by kernel_rfl) (hl:dH X.env.scope x=true:=by kernel_rfl) (hf:X.fn x=true:=by kernel_rfl)
 (hs:∀ x,EJ iter X.env x=pure x:=by intro _; kernel_rfl):FS X (.For (.Name x py) iter body [] pos) (vR i js src fS) :=
 yY i js hp hc hi (cq (c9 hN) hx (bJ hl) (.inl hf)) hb hs
theorem wS (hp:Ia (s_ X.prog X.w) X.A X.env X.xe) (hi:FI X (.Name x py) iter src) (hb:FOs X i body fO) (hex:X.ex=[]:=by kernel_rfl) (hij:JP i j=false:=by kernel_rfl) (hc:X.calm=true:=by kernel_rfl) (hN:ndB X.N=true:=by kernel_rfl) (hx:X.N[j]?=some x:=by kernel_rfl) (hl:dH X.env.scope x=true:=by kernel_rfl) (hf:X.fn x=true:=by kernel_rfl)
 (hs:∀ x,EJ iter X.env x=pure x:=by intro _; kernel_rfl):FO1 X i (.For (.Name x py) iter body [] pos) (pM j js src fO) :=
 zE hex j js (Ga hij) hp hc hi (cq (c9 hN) hx (bJ hl) (.inl hf)) hb hs
theorem tM (hp:Ia (s_ X.prog X.w) X.A X.env X.xe) (hi:FIG X (.Tuple [.Name x py,.Name y p2] kk pt) iter src) (hb:FOs X i body fO) (hex:X.ex=[]:=by kernel_rfl) (hij:JP i j=false:=by kernel_rfl) (hik:JP i k=false:=by kernel_rfl) (hc:X.calm=true:=by kernel_rfl) (hN:ndB X.N=true:=by kernel_rfl) (hx:X.N[j]?=some x:=by kernel_rfl) (hl:dH X.env.scope x=true:=by kernel_rfl) (hf:X.fn x=true:=by kernel_rfl) (hy:X.N[k]?=some y:=by kernel_rfl) (hl2:dH X.env.scope y=true:=by kernel_rfl) (hf2:X.fn y=true:=by kernel_rfl)
 (a1:(C_ [.Name x py,.Name y p2] X.env).map (·.2)=Hn (.Name x py) X.env :: (C_ [.Name y p2] X.env).map (·.2):=by kernel_rfl) (a2:(C_ [.Name y p2] X.env).map (·.2)=Hn (.Name y p2) X.env :: (C_ [] X.env).map (·.2):=by kernel_rfl)
 (a3:(C_ [.Name x py,.Name y p2] X.env).length=2:=by kernel_rfl) (a4:(C_ [.Name x py,.Name y p2] X.env).findIdx? (·.1)=none:=by kernel_rfl)
 (hs:∀ x,EJ iter X.env x=pure x:=by intro _; kernel_rfl):FO1 X i (.For (.Tuple [.Name x py,.Name y p2] kk pt) iter body [] pos) (nR j k js src fO) :=
 wC hex j k js (Ga hij) (Ga hik) hp hc hi (wB j k hc (c9 hN) hx (bJ hl) (.inl hf) hy (bJ hl2) (.inl hf2) a1 a2 a3 a4) hb hs
theorem tN (h:PGs X es (we is)) (hN:ndB X.N=true:=by kernel_rfl) (hi:X.N[i]?=some x:=by kernel_rfl) (hx:dH X.env.scope x=true:=by kernel_rfl) (hf:X.fn x=true:=by kernel_rfl)
 (hs:(C_ (.Name x p1 :: es) X.env).map (·.2)=Hn (.Name x p1) X.env :: (C_ es X.env).map (·.2):=by kernel_rfl):PGs X (.Name x p1 :: es) (we (i :: is)) :=
 wf i (c9 hN) hi (bJ hx) (.inl hf) h hs
theorem jd (hN:X.N[i]?=some x) (hv:dH X.env.scope x=true) (hd:(x == ("__debug__":Str))=false) (hcd:(x == ("__classdict__":Str))=false):PE X (.Name x pos) (uy i):=oK hN ((bJ hv).elim .inl fun h=>.inr (.inl h)) hd hcd
theorem wT (he:FE X e fa) (hx:PE X (.Name x apos) (uy i)) (hex:X.ex=[]:=by kernel_rfl)
 (hbase:GU (.Name x apos) "append" X.env (eval (.Name x apos) X.env)=eval (.Name x apos) X.env:=by kernel_rfl)
 (hfew:((EY cpos (f_ [e] X.env)).all (fun x=>!x.1) && (G1 cpos (F4 [] X.env)).all (fun x=>x.1.isSome)
   && decide ([e].length + ([]:List GY).length + (if ([]:List GY).isEmpty then 0 else 1) < 30))=true:=by kernel_rfl)
 (hline:(pt.endLine == cpos.line)=true:=by kernel_rfl) (hs:f_ [e] X.env=(false,eval e X.env) :: f_ [] X.env:=by kernel_rfl) (hplain:(EY cpos (f_ [] X.env)).any (·.1)=false:=by kernel_rfl)
 (hsw:Fk (.Call (.Attribute (.Name x apos) "append" pt) [e] [] cpos) none pos.line X.env=pure false:=by kernel_rfl):FO1 X i (.Expr (.Call (.Attribute (.Name x apos) "append" pt) [e] [] cpos) pos) (oF fa):=zB hex hx he hbase hfew hline hs hplain hsw
end
section
variable {X:Cx} {o e:Expr} {es:List Expr} {fo:FnE} {ga:FnA} {apos cpos pos:Pos} {name:Str}
structure SmL (X:Cx) (o:Expr) (name:Str) (e:Expr) (es:List Expr) (apos cpos:Pos):Prop where
 base:GU o name X.env (eval o X.env)=eval o X.env
 few:((EY cpos (f_ (e :: es) X.env)).all (fun x=>!x.1) && (G1 cpos (F4 [] X.env)).all (fun x=>x.1.isSome)
  && decide ((e :: es).length + ([]:List GY).length + (if ([]:List GY).isEmpty then 0 else 1) < 30))=true
 line:(apos.endLine == cpos.line)=true
 s:f_ (e :: es) X.env=(false,eval e X.env) :: f_ es X.env
 plain:(EY cpos (f_ es X.env)).any (·.1)=false
theorem wU {id:String} {r:V→List V→Hp→VK→Prop} {g:Str→List Dv→Option (Rs Dv)} (slot:Slot "str" name id) (hty:typeOf (.builtin id)=pure (.type "method_descriptor")) (hm:MtR X id r)
 (hg:∀ i ds vs H Q,Reps X.K H ds vs→Out X H (g i ds) Q→r (.str i) vs H Q) (ho:FE X o fo) (ha:FA X (e :: es) ga) (h:SmL X o name e es apos cpos):FE X (.Call (.Attribute o name apos) (e :: es) [] cpos) (fM g fo ga) :=
 v9 slot hty hm hg ho ha h.base h.few h.line h.s h.plain
end
section
open PySem.W
structure CA (K:ck) (mg:Str→Option Value) (cls:Nat→Addr) (CJ:Addr) (S:List Nat) (m:Nat):Prop where
 at_:∀ c∈S,mg (xnm c)=some (.ref (cls c))
 j:mg "JarError"=some (.ref CJ)
 xk:∀ c C,c < m→nsIn K EA (xnm c)=some (some (.ref C))→excIn K C bmV "ValueError.__new__"=true∧mroIn K C (.ref CJ)=some true
theorem CA.c {K:ck} {mg:Str→Option Value} {cls:Nat→Addr} {CJ:Addr} {S:List Nat} {m c:Nat} {x:Str} (h:CA K mg cls CJ S m) (hc:c∈S) (hx:xnm c=x):mg x=some (.ref (cls c)):=by
 subst hx
 exact h.at_ c hc
end
noncomputable abbrev nsM (K:ck) (x:Str):Option (Option Value):=GO K EA x
structure Af (K:ck) (x:Str) (st:Stmt) (f:Addr):Prop where
 a:nsM K x=some (some (.ref f))
 F:∃ fd,Fun K x x st f fd
 k:F0 K (.ref f)=true
def fnB (N P:List Str) (sc:Scope):Bool:=decide (sc.kind=.function) && !sc.isCoroutine && !sc.isGenerator && ndB N && decide (N.take P.length=P) && P.all (dH sc) && decide (∀ y∈sc.names,y.2≠.free)
theorem DH {N P:List Str} {sc:Scope} (h:fnB N P sc=true):eG N P sc:=by
 unfold fnB at h
 simp only [on,decide_eq_true_eq,IB] at h
 exact ⟨h.1.1.1.1.1.1,h.1.1.1.1.1.2,h.1.1.1.1.2,c9 h.1.1.1.2,h.1.1.2,fun x hx=>bJ (E6.1 h.1.2 x hx),h.2⟩
section
variable {P:Program} {w:w_} {K:ck} {mg:Str→Option Value} {base:Heap} {h:Heap} {k:Nat} {x:Str} {st:Stmt} {f:Addr} {F:List Dv→Option (Rs Dv)}
def Em (x:Str) (st:Stmt) (ps:List Str):Prop:=∀ (kV doc pm:Value) (an:Option Addr) (cdv ct:Value) (us:List Value),us.length=ps.length→bindArgs (G_ x x (eI st) (cr st) (aJ st) .none kV doc pm an cdv ct) ⟨us,[]⟩=pure (ps.zip us)
theorem aH (XI:K.In h) (Gn:h.Ns EA mg) (N ps:List Str) (fb:FnS) (A:Af K x st f) (hbd:Em x st ps)
 (hb:∀ (cdv:Value) (A:u_) (outer:List Env) (s:c_) (H:Hp) (E:XK),Room k (A.deeper (JA x (aJ st) s.heap.objs.size f cdv))→FSs (r8 CX0 P w K mg base N x (aJ st) f cdv A outer s H E).nox (cr st) fb) (hF:F=bR N.length fb:=by kernel_rfl) (hs:fnB N ps (aJ st)=true:=by kernel_rfl):Has P w K mg base x (k + 1) ps F :=
 let ⟨_,Fn⟩:=A.F
 ⟨_,_,uJ N ps fb hF rfl Fn (DH hs) hb,JV XI Gn A.a,A.k,Fn.binds hbd⟩
end
section
end
end FD
namespace TS
open PySem PySem.Spec PyProof.Rows L2 FD
def C0 (p q:Value) (e l:Bool):Prop:=∀ (prog:Program) (w:w_) (A:u_) (E:Value→c_→Prop) (s:c_),
 (∀ Q:Bool→c_→Prop,Q e s→l_ (s_ prog w) A (eqBool p q) Q E s)∧(∀ Q:Value→c_→Prop,Q (.bool l) s→l_ (s_ prog w) A (richCompare .Gt p q) Q E s)
inductive iE:List (Value×Value)→List (Bool×Bool)→Prop
 | nil:iE [] []
 | cons {p q:Value} {e l:Bool} {ps:List (Value×Value)} {rs:List (Bool×Bool)}:C0 p q e l→iE ps rs→iE ((p,q) :: ps) ((e,l) :: rs)
def lz:List Int→List Int→Bool
 | x :: xs,y :: ys=>if x=y then lz xs ys else decide (y < x)
 | _,_=>false
theorem iF:∀ {ks js:List Int} {xs ys:List Value},ks.length=js.length→Vals (ks.map V.int) xs→Vals (js.map V.int) ys→∃ rs,iE (xs.zip ys) rs∧(bh rs).getD false=lz ks js
 | [],[],xs,ys,_,v,v'=>by
  cases v
  exact ⟨[],.nil,rfl⟩
 | k :: ks,j :: js,xs,ys,hl,v,v'=>by
  cases v with
  | cons v1 v2 =>
   cases v' with
   | cons v1' v2' =>
    obtain ⟨rs,i1,i2⟩:=iF (by simpa using hl) v2 v2'
    obtain ⟨t,rfl⟩:=v1
    obtain ⟨t',rfl⟩:=v1'
    refine ⟨(k == j,decide (j < k)) :: rs,.cons (fun prog w A E s=>⟨(mO s.heap A false k j t t' prog w E s rfl).1,fun Q h=>(PyProof.Rows.gt_int h:l_ (s_ prog w) A (EF .Gt (.int k t) (.int j t')) Q E s)⟩) i1,?_⟩
    rw [bV,i2]
    simp [lz]
 | [],_ :: _,_,_,h,_,_=>by simp at h
 | _ :: _,[],_,_,h,_,_=>by simp at h
section
open PySem.SeqAt
open PySem.AutoSeq1 (wpAny_loadPart')
open PySem.MeetsSeq PySem.MeetsSeq2 PySem.MeetsSeq3
theorem qz (l b:Addr) (items items2:Array Value) (n n2:Nat) (dd dd2:Option Addr) (sl sl2:Array (Option Value)) (rs:List (Bool×Bool)) (hi:iE (items.toList.zip items2.toList) rs) (hz:items.size=items2.size) :
 Meets (JL.«tuple.__gt__» ⟨[.ref l,.ref b],[]⟩)
  (fun _ R s=>s.heap.get? l=some { cls:=.type "tuple",dict:=dd,data:=.seq items n,slots:=sl }∧s.heap.get? b=some { cls:=.type "tuple",dict:=dd2,data:=.seq items2 n2,slots:=sl2 } ∧
    R (.ok (.ret (.bool ((bh rs).getD false)))) s) :=
 .of_wp fun prog w A R s h=>by
  obtain ⟨hp,g,d,tk,os⟩:=s; obtain ⟨hl,hb,h⟩:=h
  have f2:=JY
  wp_walk using IW hl,IW hb,Hy _ (fun rest b s'=>b.1=none∧s'=⟨hp,g,d,tk,os⟩∧∃ rs',iE rest rs'∧R (.ok (.ret (.bool ((bh rs').getD false)))) ⟨hp,g,d,tk,os⟩) _
  case turn =>
   rintro ⟨y,x⟩ rest b s' ⟨hb',rfl,rs',hI,hR⟩
   cases hI with
   | cons i r =>
    rename_i e lw rs''
    rw [bV] at hR
    refine a_ ((i prog w _ _ _).1 _ ?_)
    cases e with
    | true =>
     wp_walk
     exact ⟨rfl,rfl,_,r,by simpa using hR⟩
    | false =>
     have hri:=fun Q h=>(i prog w A.in1 (fun e s'=>R (.error e) s') ⟨hp,g,d,tk,os⟩).2 Q h
     wp_walk using hri
     exact ⟨_,rfl,by simpa using hR⟩
  case fin =>
   rintro ⟨b1,b2⟩ s' ⟨hb',rfl,rs',hI,hR⟩
   simp only at hb'
   subst hb'
   cases hI
   wp_walk
   exact ⟨_,rfl,by simpa [IC,hz,bh] using hR⟩
  case h =>
   exact ⟨rfl,rfl,rs,hi,h⟩
end
end TS
namespace FD
open PySem PySem.Spec PyProof.Rows L2 TS
def gtT:Dv→Dv→Option (Rs Dv)
 | .tup xs,.tup ys=>(match cy xs,cy ys with | some ns,some ms=>if ns.length=ms.length then some (.ok (.bl (lz ns ms))) else none | _,_=>none)
 | _,_=>none
def DI:R2:=fun x y H Q=>∃ a b ns ms,x=.ref a∧y=.ref b∧H a=some (.tup (ns.map V.int))∧H b=some (.tup (ms.map V.int))∧ns.length=ms.length∧Q (.bl (lz ns ms)) H
theorem gI {K:ck} {H:Hp}:∀ {ds:List Dv} {ns:List Int} {us:List V},cy ds=some ns→Reps K H ds us→us=ns.map V.int
 | [],ns,us,h,r=>by
  cases h
  exact (show us=[] from r)
 | .int x :: ds,ns,us,h,r=>by
  obtain ⟨v,vs,rfl,r1,r2⟩:∃ v vs,us=v :: vs∧Rep K H (.int x) v∧Reps K H ds vs:=r
  cases (show v=.int x from r1)
  obtain ⟨k',h1,rfl⟩:=EB.mp (show (cy ds).map (x :: ·)=some ns from h)
  rw [gI h1 r2]
  rfl
 | .non :: _,_,_,h,_=>by cases h
 | .bl _ :: _,_,_,h,_=>by cases h
 | .str _ :: _,_,_,h,_=>by cases h
 | .tup _ :: _,_,_,h,_=>by cases h
 | .lst _ :: _,_,_,h,_=>by cases h
 | .scr _ :: _,_,_,h,_=>by cases h
 | .exn _ :: _,_,_,h,_=>by cases h
section
variable {X:Cx}
theorem C1 (hu:X.A.units + 64 < cLine):OpR X (EF .Gt) DI:=by
 intro pins s σ H x y v u Q I rx ry h
 obtain ⟨a,b,ns,ms,rfl,rfl,ha,hb,hl,q⟩:=h
 cases rx
 cases ry
 obtain ⟨its,r1,p1,_⟩:=I.tuple (SqT.of ha)
 obtain ⟨its2,r2,p2,_⟩:=I.tuple (SqT.of hb)
 obtain ⟨rs,i1,i2⟩:=iF hl r1 r2
 obtain ⟨⟨cls,dd,data,sl⟩,ho,hc,n,hd⟩:=id p1
 obtain ⟨⟨cls2,dd2,data2,sl2⟩,ho2,hc2,n2,hd2⟩:=id p2
 simp only at hc hd hc2 hd2
 subst hc hd hc2 hd2
 have hz:its.toArray.size=its2.toArray.size:=by
  have e1:=r1.length
  have e2:=r2.length
  simp at e1 e2 ⊢
  omega
 rw [← i2] at q
 exact Ko (op:=.Gt) ⟨_,ho,rfl⟩ ⟨_,ho2,rfl⟩ PySem.F.slot_tuple_gt PySem.F.entry_tuple_gt (PySem.F.args_tuple_gt_2 _ _) (qz a b its.toArray its2.toArray n n2 dd dd2 sl sl2 rs i1 hz)
  ⟨ho,ho2,show F1 ((bh rs).getD false)≠K3∧_ from ⟨(fun x=>nomatch x),.bl ((bh rs).getD false),H,I,rfl,q⟩⟩ (by omega)
theorem C2:GOp X DI gtT:=by
 intro dx dy x y H Q rx ry o
 cases dx <;> cases dy <;> try exact (show False from o).elim
 rename_i xs ys
 simp only [gtT] at o
 split at o
 · rename_i ns ms e1 e2
   split at o
   · rename_i hl
     obtain ⟨a,us,rfl,ha,r⟩:=rx.tupE
     obtain ⟨b,us',rfl,hb,r'⟩:=ry.tupE
     rw [gI e1 r] at ha
     rw [gI e2 r'] at hb
     exact ⟨a,b,ns,ms,rfl,rfl,ha,hb,hl,o _ H (.refl H) rfl⟩
   · exact o.elim
 · exact o.elim
end
end FD
namespace FD
open PySem PySem.Spec PyProof.Rows L2
def ix (k:Int):List Int→Nat
 | []=>0
 | m :: r=>if m=k then 0 else ix k r + 1
def er (k:Int):List Int→List Int
 | []=>[]
 | m :: r=>if m=k then r else m :: er k r
structure S2 (X:Cx) (i k:Nat) (a b:Addr) (H:Hp) (σ:L2.St) (Hf:Hp) (ρ:Ev):Prop where
 off:∀ c,c≠a→c≠b→Hf c=H c
 na:H a=none
 nb:H b=none
 ne:a≠b
 ia:σ[i]?=some (some (.ref a))
 kb:σ[k]?=some (some (.ref b))
 len:σ.length=ρ.length
 low:∀ j d,j≠i→j≠k→ρ[j]?=some (some d)→∃ v,σ[j]?=some (some v)∧Rep X.K H d v
 fst:∃ ds xs,ρ[i]?=some (some (.lst ds))∧Hf a=some (.lst xs)∧Reps X.K H ds xs
 snd:∃ es ys,ρ[k]?=some (some (.lst es))∧Hf b=some (.lst ys)∧Reps X.K H es ys
section
variable {X:Cx} {i k:Nat} {a b:Addr} {H Hf:Hp} {σ:L2.St} {ρ:Ev}
theorem S2.up (S:S2 X i k a b H σ Hf ρ):Same H Hf:=fun c u q=>by
 rw [S.off c (ak q S.na) (ak q S.nb)]; exact q
theorem S2.grow (S:S2 X i k a b H σ Hf ρ) {Hg:Hp} (e:Same Hf Hg):∃ H',Same H H'∧S2 X i k a b H' σ Hg ρ:=by
 obtain ⟨ds,xs,f1,f2,f3⟩:=S.fst
 obtain ⟨es,ys,g1,g2,g3⟩:=S.snd
 have up:Same H (fun c=>if c=a∨c=b then none else Hg c):=fun c u q=>by
  have h1:=ak q S.na
  have h2:=ak q S.nb
  simp only [h1,h2,or_self,if_false]
  exact e c u (by rw [S.off c h1 h2]; exact q)
 refine ⟨_,up,⟨fun c h1 h2=>by simp [h1,h2],by simp,by simp,S.ne,S.ia,S.kb,S.len,fun j d h1 h2 h3=>?_,⟨ds,xs,f1,e _ _ f2,Reps.mono up _ _ f3⟩,⟨es,ys,g1,e _ _ g2,Reps.mono up _ _ g3⟩⟩⟩
 obtain ⟨v,q1,q2⟩:=S.low j d h1 h2 h3
 exact ⟨v,q1,Rep.mono up _ _ q2⟩
theorem S2.put (S:S2 X i k a b H σ Hf ρ) {j:Nat} {d:Dv} {v:V} (h1:j≠i) (h2:j≠k) (r:Rep X.K H d v):S2 X i k a b H (σ.set j (some v)) Hf (ρ.set j (some d)):=by
 obtain ⟨ds,xs,f1,f2,f3⟩:=S.fst
 obtain ⟨es,ys,g1,g2,g3⟩:=S.snd
 refine ⟨S.off,S.na,S.nb,S.ne,by rw [v_ h1]; exact S.ia,by rw [v_ h2]; exact S.kb,by rw [EV,EV]; exact S.len,fun m d' m1 m2 hm=>?_,⟨ds,xs,by rw [v_ h1]; exact f1,f2,f3⟩,⟨es,ys,by rw [v_ h2]; exact g1,g2,g3⟩⟩
 by_cases hj:j=m
 · subst hj
   by_cases hl:j < ρ.length
   · rw [ED hl] at hm
     cases hm
     exact ⟨v,by rw [ED (by rw [S.len]; exact hl)],r⟩
   · rw [EI (by rw [EV]; omega)] at hm
     cases hm
 · rw [v_ hj] at hm
   rw [v_ hj]
   exact S.low m d' m1 m2 hm
end
abbrev FnP:=Ev→Option Ev
def AftP (X:Cx) (i k:Nat) (a b:Addr) (H:Hp) (o:Option Ev) (N:L2.St→Hp→Prop):Prop:=∃ ρ',o=some ρ'∧∀ σ' H' Hf',Same H H'→S2 X i k a b H' σ' Hf' ρ'→N σ' Hf'
def tP (X:Cx) (i k:Nat) (f:FnP):TS:=fun D σ Hf=>∃ H a b ρ,S2 X i k a b H σ Hf ρ∧AftP X i k a b H (f ρ) D.nx
structure FP (X:Cx) (i k:Nat) (st:Stmt) (f:FnP):Prop where
 h:PS X st (tP X i k f)
structure FPs (X:Cx) (i k:Nat) (st:List Stmt) (f:FnP):Prop where
 h:PSs X st (tP X i k f)
section
variable {X:Cx} {i k:Nat} {st:Stmt} {sts:List Stmt} {f g:FnP} {fe:FnE} {gb:FnB} {e c:Expr} {pos:Pos}
theorem AftP.mono {a b:Addr} {H H':Hp} {o:Option Ev} {N:L2.St→Hp→Prop} (e:Same H H'):AftP X i k a b H o N→AftP X i k a b H' o N
 | ⟨ρ',h,q⟩=>⟨ρ',h,fun σ' H1 Hf' e1=>q σ' H1 Hf' (e.trans e1)⟩
end
section
variable {X:Cx} {elt iter:Expr} {x y z w:Str} {px py pz pw pt pos:Pos} {ifs:List Expr} {scope:Scope} {k:Nat} {src:FnA} {tst:Option FnB} {fe:FnE} {cs:List (Str×Nat)}
end
section
variable {X:Cx} {i k:Nat} {st:Stmt} {sts:List Stmt} {f g:FnP} {fe:FnE} {gb:FnB} {e c:Expr} {pos:Pos}
end
def lA (i j:Nat) (f:FnE):dC:=fun ρ ds=>pL (f (ρ.set i (some (.lst ds)))) fun d=>if imm d=true then some (.nx (ρ.set j (some d)) ds) else none
section
variable {X:Cx} {i:Nat} {e:Expr} {fe:FnE} {pos:Pos}
theorem wV (j:Nat) (hij:i≠j) {x:Str} {pos':Pos} (hN:X.N.Nodup) (hi:X.N[j]?=some x) (hx:Loc X.env.scope x) (he:FE X e fe) (hs:Fk e (some (.Name x pos')) pos.line X.env=pure false:=by kernel_rfl) (hf:X.fn x=true∨X.env.scope.names.lookup x=some .local:=by first | exact .inl rfl | exact .inr rfl | assumption) :
 FO1 X i (.Assign [.Name x pos'] e pos) (lA i j fe):=⟨fun pins s σ Hf D I ⟨H,a,xs,ρ,ds,e1,ha,hia,E,r,o⟩=>by
 subst e1
 refine hU hN hi hx he.h hs hf pins s σ _ D I ⟨_,dX ha hia E r,?_⟩
 unfold lA at o
 match hfe:fe (ρ.set i (some (.lst ds))) with
 | none=>rw [hfe] at o; exact o.elim
 | some (.exc _)=>rw [hfe] at o; exact o.elim
 | some (.ok d) =>
  rw [hfe] at o
  have o2:OutW X i a H (if imm d=true then some (.nx (ρ.set j (some d)) ds) else none) D:=o
  split at o2
  · rename_i im
    intro v H2 e2 rd
    obtain ⟨H',q1,q2,q3⟩:=lj ha e2
    subst q1
    exact o2 _ H' xs q3 q2 (by rw [v_ (GE hij)]; exact hia) ((E.mono q3).set (fG im rd)) (Reps.mono q3 _ _ r)
  · exact o2.elim⟩
theorem tQ {j:Nat} {x:Str} {pos':Pos} (he:FE X e fe) (hij:JP i j=false:=by kernel_rfl) (hN:ndB X.N=true:=by kernel_rfl) (hi:X.N[j]?=some x:=by kernel_rfl) (hx:dH X.env.scope x=true:=by kernel_rfl) (hf:X.fn x=true:=by kernel_rfl) (hs:Fk e (some (.Name x pos')) pos.line X.env=pure false:=by kernel_rfl) :
 FO1 X i (.Assign [.Name x pos'] e pos) (lA i j fe):=wV j (Ga hij) (c9 hN) hi (bJ hx) he hs (.inl hf)
end
end FD
namespace L2
open PySem PySem.Spec PyProof.Rows
section
variable {κ:Type} [DecidableEq κ]
def jE (kvs:List (κ×V)) (k:κ):Option V:=(kvs.find? fun kv=>decide (kv.1=k)).map (·.2)
def kU (kvs:List (κ×V)) (k:κ) (v:V):List (κ×V) :=
 if (kvs.any fun kv=>decide (kv.1=k))=true then kvs.map (fun kv=>if kv.1=k then (kv.1,v) else kv) else kvs ++ [(k,v)]
def z7 (kvs:List (κ×V)) (k:κ):List (κ×V):=kvs.filter fun kv=>decide (kv.1≠k)
theorem fI {p:κ×V} {r:List (κ×V)} {k:κ} (e:p.1=k):jE (p :: r) k=some p.2:=by simp [jE,Gu,e]
theorem fJ {p:κ×V} {r:List (κ×V)} {k:κ} (e:¬ p.1=k):jE (p :: r) k=jE r k:=by simp [jE,Gu,e]
theorem m3 (k:κ):∀ kvs:List (κ×V),(kvs.any fun kv=>decide (kv.1=k))=(jE kvs k).isSome
 | []=>rfl
 | p :: r=>by
  rw [F8]
  by_cases e:p.1=k
  · simp only [fI e,decide_eq_true e,Bool.true_or,LK]
  · rw [fJ e,decide_eq_false e,Bool.false_or]; exact m3 k r
theorem gJ (kvs:List (κ×V)) (k:κ) (v:V):(kU kvs k v).length≤kvs.length + 1:=by
 unfold kU
 split
 · rw [Ey]; omega
 · rw [Fc,EG,List.length_nil]; omega
theorem RelO.isSome_eq {o:Option V} {u:Option Value} (r:RelO o u):o.isSome=u.isSome:=by
 cases o with
 | none=>cases u with
  | none=>rfl
  | some _=>exact (show False from r).elim
 | some _=>cases u with
  | none=>exact (show False from r).elim
  | some _=>rfl
theorem RelO.getD {o:Option V} {u:Option Value} {d:V} {d':Value} (r:RelO o u) (rd:RelV d d'):RelV (o.getD d) (u.getD d'):=by
 cases o with
 | none=>cases u with
  | none=>exact rd
  | some _=>exact (show False from r).elim
 | some _=>cases u with
  | none=>exact (show False from r).elim
  | some _=>exact r
theorem KV.val {kvs:List (κ×V)} {vs:List (κ×Value)} (r:KV kvs vs) (k:κ):RelO (jE kvs k) (LR vs k):=by
 unfold KV at r
 induction r with
 | nil=>exact G8
 | @cons p q ps qs h t ih =>
  obtain ⟨h1,h2⟩:=h
  by_cases e:p.1=k
  · have e':q.1=k:=h1.symm.trans e
    have b:LR (q :: qs) k=some q.2:=by simp [LR,Gu,e']
    rw [fI e,b]; exact h2
  · have e':¬ q.1=k:=fun z=>e (h1.trans z)
    have b:LR (q :: qs) k=LR qs k:=by simp [LR,Gu,e']
    rw [fJ e,b]; exact ih
theorem KV.any {kvs:List (κ×V)} {vs:List (κ×Value)} (r:KV kvs vs) (k:κ):(kvs.any fun kv=>decide (kv.1=k))=vs.any fun kv=>decide (kv.1=k):=by
 unfold KV at r
 induction r with
 | nil=>rfl
 | cons h t ih=>rw [F8,F8,ih,h.1]
theorem KV.repl {kvs:List (κ×V)} {vs:List (κ×Value)} (r:KV kvs vs) (k:κ) {y:V} {u:Value} (ry:RelV y u) :
 KV (kvs.map fun kv=>if kv.1=k then (kv.1,y) else kv) (vs.map fun kv=>if kv.1=k then (kv.1,u) else kv):=by
 unfold KV at r ⊢
 induction r with
 | nil=>exact .nil
 | @cons p q ps qs h t ih =>
  rw [t_,t_]
  refine .cons ?_ ih
  obtain ⟨h1,h2⟩:=h
  by_cases e:p.1=k
  · rw [if_pos e,if_pos (h1.symm.trans e)]; exact ⟨h1,ry⟩
  · rw [if_neg e,if_neg (fun z=>e (h1.trans z))]; exact ⟨h1,h2⟩
theorem KV.put {kvs:List (κ×V)} {vs:List (κ×Value)} (r:KV kvs vs) (k:κ) {y:V} {u:Value} (ry:RelV y u):KV (kU kvs k y) (stored vs k u):=by
 unfold kU stored
 rw [r.any k]
 by_cases e:(vs.any fun kv=>decide (kv.1=k))=true
 · rw [if_pos e,if_pos e]; exact r.repl k ry
 · rw [if_neg e,if_neg e]; exact Paired.snoc r ⟨rfl,ry⟩
theorem KV.drop {kvs:List (κ×V)} {vs:List (κ×Value)} (r:KV kvs vs) (k:κ):KV (z7 kvs k) (without vs k):=by
 unfold KV at r ⊢
 unfold z7 without
 induction r with
 | nil=>exact .nil
 | @cons p q ps qs h t ih =>
  obtain ⟨h1,h2⟩:=h
  rw [Mr,Mr]
  by_cases e:p.1=k
  · have a:¬ decide (p.1≠k)=true:=by simp [e]
    have b:¬ decide (q.1≠k)=true:=by simp [h1.symm.trans e]
    rw [if_neg a,if_neg b]; exact ih
  · have e':¬ q.1=k:=fun z=>e (h1.trans z)
    have a:decide (p.1≠k)=true:=by simp [e]
    have b:decide (q.1≠k)=true:=by simp [e']
    rw [if_pos a,if_pos b]; exact .cons ⟨h1,h2⟩ ih
theorem KV.keys {kvs:List (κ×V)} {vs:List (κ×Value)} (r:KV kvs vs):kvs.map (·.1)=vs.map (·.1):=by
 unfold KV at r
 induction r with
 | nil=>rfl
 | cons h t ih=>rw [t_,t_,ih,h.1]
theorem KV.length {kvs:List (κ×V)} {vs:List (κ×Value)} (r:KV kvs vs):kvs.length=vs.length:=JW r
end
theorem wW {P:Program} {w:w_} {k:Key} {u:Value} (r:RelV (kV k) u):(bm P w).is k u=true:=by
 cases k with
 | inl i=>obtain ⟨t,e⟩:=(show ∃ t,u=Lj i t from r); subst e; exact kW P w i t
 | inr x=>obtain ⟨t,e⟩:=(show ∃ t,u=HZ x t from r); subst e; exact kX P w x t
theorem kq {P:Program} {w:w_}:∀ {ks:List Key} {us:List Value},Vals (ks.map kV) us→ItemsAre (bm P w) ks us
 | [],_,r=>by rw [Iw] at r; cases r; exact .nil
 | k :: ks,_,r=>by
  rw [t_] at r
  cases r with
  | cons h t=>exact .cons (wW h) (kq t)
abbrev KT (H:Hp):List (List Key×V)→List (List Key×Addr×Value)→Prop:=MQ fun p q=>p.1=q.1∧H q.2.1=some (.tup (p.1.map kV))∧RelV p.2 q.2.2
theorem KT.val {H:Hp} {kvs:List (List Key×V)} {xs:List (List Key×Addr×Value)} (r:KT H kvs xs) (k:List Key):RelO (jE kvs k) ((MM xs k).map (·.2)):=by
 induction r with
 | nil=>exact G8
 | @cons p q ps qs h t ih =>
  obtain ⟨h1,_,h2⟩:=h
  by_cases e:p.1=k
  · have e':q.1=k:=h1.symm.trans e
    have b:MM (q :: qs) k=some q.2:=by simp [MM,Gu,e']
    rw [fI e,b]; exact h2
  · have e':¬ q.1=k:=fun z=>e (h1.trans z)
    have b:MM (q :: qs) k=MM qs k:=by simp [MM,Gu,e']
    rw [fJ e,b]; exact ih
theorem KT.repl {H:Hp} {kvs:List (List Key×V)} {xs:List (List Key×Addr×Value)} (r:KT H kvs xs) (k:List Key) {y:V} {u:Value} (ry:RelV y u) :
 KT H (kvs.map fun kv=>if kv.1=k then (kv.1,y) else kv) (xs.map (putAt k u)):=by
 induction r with
 | nil=>exact .nil
 | @cons p q ps qs h t ih =>
  rw [t_,t_]
  refine .cons ?_ ih
  obtain ⟨h1,h2,h3⟩:=h
  unfold putAt
  by_cases e:p.1=k
  · rw [if_pos e,if_pos (h1.symm.trans e)]; exact ⟨h1,h2,ry⟩
  · rw [if_neg e,if_neg (fun z=>e (h1.trans z))]; exact ⟨h1,h2,h3⟩
theorem KT.put {H:Hp} {kvs:List (List Key×V)} {xs:List (List Key×Addr×Value)} (r:KT H kvs xs) (k:List Key) {b:Addr} {y:V} {u:Value} (hb:H b=some (.tup (k.map kV))) (ry:RelV y u) :
 KT H (kU kvs k y) (storedH xs k b u):=by
 have e:(kvs.any fun kv=>decide (kv.1=k))=(MM xs k).isSome:=by
  rw [m3,(r.val k).isSome_eq,Option.isSome_map]
 unfold kU storedH
 rw [e]
 by_cases q:(MM xs k).isSome=true
 · rw [if_pos q,if_pos q]; exact r.repl k ry
 · rw [if_neg q,if_neg q]; exact Paired.snoc r ⟨rfl,hb,ry⟩
theorem KT.keeps {H H':Hp} {kvs:List (List Key×V)} {xs:List (List Key×Addr×Value)} (r:KT H kvs xs) (ht:∀ b ys,H b=some (.tup ys)→H' b=some (.tup ys)):KT H' kvs xs :=
 Paired.mapP r fun _ _ z=>⟨z.1,ht _ _ z.2.1,z.2.2⟩
section
variable {P:Program} {w:w_} {H:Hp} {h:Heap} {a:Addr}
theorem z8 {u:HO} (ok:HOk P w H h) (e:Rd H a u):ObjOk P w H h a u:=e.ok ok
theorem wX {kvs:List (Key×V)} (ok:HOk P w H h) (e:Rd H a (.dK kvs)):kvs.length≤sizeLine∧(a == GS)=false∧∃ vs,KV kvs vs∧h.DictOf (bm P w) a vs :=
 show ObjOk P w H h a (.dK kvs) from z8 ok e
theorem C3 {kvs:List (Key×V)} (ok:HOk P w H h) (e:H a=some (.dK kvs)):kvs.length≤sizeLine∧(a == GS)=false∧∃ vs,KV kvs vs∧h.DictOf (bm P w) a vs:=wX ok (.inl e)
theorem cU {ks:List Key} (ok:HOk P w H h) (e:H a=some (.tup (ks.map kV))):(J4 (bm P w)).is h ks a:=by
 obtain ⟨_,its,r,o,h1,h2,n,h3⟩:=(show ObjOk P w H h a (.tup (ks.map kV)) from ok a _ e)
 exact ⟨o,its.toArray,n,h1,h2,h3,by simpa using kq r⟩
theorem wY {kvs:List (List Key×V)} (ok:HOk P w H h) (e:Rd H a (.dT kvs)):kvs.length≤sizeLine∧(a == GS)=false ∧
 ∃ xs,KT H kvs xs∧h.DictOfH (J4 (bm P w)) a xs:=by
 obtain ⟨z,y,xs,r,o,es,ep,h1,h2,h3,h4,h5⟩:=(show ObjOk P w H h a (.dT kvs) from z8 ok e)
 refine ⟨z,y,xs,r,o,es,ep,h1,h2,h3,h4,fun x hx=>?_,h5⟩
 have all:∀ {l:List (List Key×V)} {m:List (List Key×Addr×Value)},KT H l m→∀ x∈m,(J4 (bm P w)).is h x.1 x.2.1:=by
  intro l m q
  induction q with
  | nil=>intro x hx; exact nomatch hx
  | @cons p q ps qs hq t ih =>
   intro x hx
   rcases pi.mp hx with e | hx
   · subst e
     exact cU ok (by rw [← hq.1]; exact hq.2.1)
   · exact ih x hx
 exact all r x hx
theorem z9 {kvs:List (List Key×V)} (ok:HOk P w H h) (e:H a=some (.dT kvs)):kvs.length≤sizeLine∧(a == GS)=false ∧
 ∃ xs,KT H kvs xs∧h.DictOfH (J4 (bm P w)) a xs:=wY ok (.inl e)
end
def DGet (H:Hp) (a:Addr) (y:V) (r:Option V):Prop :=
 (∃ kvs k,Rd H a (.dK kvs)∧y=kV k∧r=jE kvs k)∨∃ kvs k b,Rd H a (.dT kvs)∧y=.ref b∧H b=some (.tup (k.map kV))∧r=jE kvs k
def DPut (H:Hp) (a:Addr) (y v:V) (H':Hp):Prop :=
 (∃ kvs k,H a=some (.dK kvs)∧y=kV k∧kvs.length < sizeLine∧H'=upd H a (.dK (kU kvs k v))) ∨
 ∃ kvs k b,H a=some (.dT kvs)∧y=.ref b∧H b=some (.tup (k.map kV))∧kvs.length < sizeLine∧H'=upd H a (.dT (kU kvs k v))
theorem DGet.k {H:Hp} {a:Addr} {kvs:List (Key×V)} {k:Key} (e:H a=some (.dK kvs)):DGet H a (kV k) (jE kvs k):=.inl ⟨kvs,k,.inl e,rfl,rfl⟩
theorem DGet.t {H:Hp} {a b:Addr} {kvs:List (List Key×V)} {k:List Key} (e:H a=some (.dT kvs)) (eb:H b=some (.tup (k.map kV))):DGet H a (.ref b) (jE kvs k):=.inr ⟨kvs,k,b,.inl e,rfl,eb,rfl⟩
theorem DPut.k {H:Hp} {a:Addr} {kvs:List (Key×V)} {k:Key} {v:V} (e:H a=some (.dK kvs)) (hl:kvs.length < sizeLine):DPut H a (kV k) v (upd H a (.dK (kU kvs k v))):=.inl ⟨kvs,k,e,rfl,hl,rfl⟩
theorem DPut.t {H:Hp} {a b:Addr} {kvs:List (List Key×V)} {k:List Key} {v:V} (e:H a=some (.dT kvs)) (eb:H b=some (.tup (k.map kV))) (hl:kvs.length < sizeLine) :
 DPut H a (.ref b) v (upd H a (.dT (kU kvs k v))):=.inr ⟨kvs,k,b,e,rfl,eb,hl,rfl⟩
section
variable {X:Cx} {pins:List (Addr×Obj)} {σ:St} {H:Hp} {s:c_} {a:Addr} {y v:V} {u r:Value} {o:Option V} {A:u_} {E:Value→c_→Prop}
theorem Inv.big (I:Inv X pins σ H s):GS < s.heap.objs.size:=by
 have h:EA < s.heap.objs.size:=(I.mod.glob.keeps I.bk).lt
 exact Jh (by decide) h
theorem qA {h':Heap} {t':Nat} {ob:HO} (I:Inv X pins σ H s) (mu:Mut (H a)) (hs:FJ a s.heap h') (he:∃ q,h'.get? a=some q) (new:ObjOk X.prog X.w (upd H a ob) h' a ob) :
 Inv X pins σ (upd H a ob) { s with heap:=h',toks:=t' } :=
 I.write (x:=a) (e:=a) mu (.inl rfl) (fun b q hb z=>(hs.2 b hb).trans z) he new
theorem Aa {P:Program} {w:w_} {H':Hp} {h':Heap} {kvs:List (Key×V)} {vs:List (Key×Value)} (z:kvs.length≤sizeLine) (hd:(a == GS)=false) (rel:KV kvs vs) (dd:h'.DictOf (bm P w) a vs) :
 ObjOk P w H' h' a (.dK kvs):=⟨z,hd,vs,rel,dd⟩
theorem qB {H':Hp} {Q:Unit→c_→Prop} (hu:A.units + 1 < cLine) (I:Inv X pins σ H s) (g:DPut H a y v H') (ry:RelV y u) (rv:RelV v r) (h:∀ s',Inv X pins σ H' s'→Q () s') :
 l_ (s_ X.prog X.w) A (setItem (.ref a) u r) Q E s:=by
 rcases g with ⟨kvs,k,e,ey,l,eH⟩ | ⟨kvs,k,b,e,ey,eb,l,eH⟩
 · subst ey eH
   obtain ⟨z,hd,vs,rel,dd⟩:=C3 I.hok e
   have hz:vs.length≤sizeLine:=by rw [← rel.length]; exact z
   have hl:(kU kvs k v).length≤sizeLine:=by have:=gJ kvs k v; omega
   refine wpAny_setItem_pairs (hsz:=hz) (wW ry) dd fun h' dd' hs=>h _ ?_
   have he:∃ q,h'.get? a=some q:=let ⟨q,_,_,hq,_⟩:=dd'; ⟨q,hq⟩
   exact qA I (by rw [e]; exact G8) hs he (Aa hl hd (rel.put k rv) dd')
 · subst ey eH
   cases (show u=r_ b from ry)
   obtain ⟨z,hd,xs,rel,dd⟩:=z9 I.hok e
   have hz:xs.length≤sizeLine:=by rw [← JW rel]; exact z
   have hl:(kU kvs k v).length≤sizeLine:=by have:=gJ kvs k v; omega
   refine wpAny_setItem_heap (hsz:=hz) (tupleKind_room_in1 hu) (cU I.hok eb) dd fun h' dd' hs=>h _ ?_
   obtain ⟨q,es,ep,hq,h2,h3,h4,_,h5⟩:=dd'
   refine qA I (by rw [e]; exact G8) hs ⟨q,hq⟩ ⟨hl,hd,_,(rel.put k eb rv).keeps fun c ys ec=>?_,q,es,ep,hq,h2,h3,h4,h5⟩
   rw [am (By ec e (fun z=>nomatch z))]
   exact ec
end
section
variable {X:Cx} {pins:List (Addr×Obj)} {σ:St} {H:Hp} {s:c_} {a:Addr} {kvs:List (Key×V)} {k:Key} {u:Value} {A:u_} {E:Value→c_→Prop}
end
def C4 (td ty tv:TE):TS:=fun D σ H=>tv σ H fun v H1=>td σ H1 fun x H2=>ty σ H2 fun y H3=>∃ a H4,x=.ref a∧DPut H3 a y v H4∧D.nx σ H4
section
variable {X:Cx} {o i e value:Expr} {pos pos' tpos:Pos} {td ty tv:TE}
theorem wZ (hu:X.A.units + 1 < cLine) (ho:PE X o td) (hi:PE X i ty) (hv:PE X value tv) (hs:Fk value (some (.Subscript o i pos')) pos.line X.env=pure false) :
 PS X (.Assign [.Subscript o i pos'] value pos) (C4 td ty tv):=by
 intro pins s σ H D I h
 refine wpAny_Assign_Subscript (thn (hv pins s σ H _ I h) fun r s1 ⟨v,H1,I1,rv,q1⟩=>thn (ho pins s1 σ H1 _ I1 q1) fun u s2 ⟨x,H2,I2,rx,q2⟩=>thn (hi pins s2 σ H2 _ I2 q2) fun iv s3 ⟨y,H3,I3,ry,a,H4,ex,g,q3⟩=>?_) hs
 subst ex
 obtain rfl:u=r_ a:=rx
 exact qB hu I3 g ry rv fun s4 I4=>⟨σ,H4,I4,q3⟩
end
theorem tU {P:Program} {w:w_} {H:Hp} (h:Heap) (hb:GS < h.objs.size):ObjOk P w H (h.push { cls:=.type "dict",data:=.dict #[] }) h.objs.size (.dT []) :=
 ⟨EK _,beq_eq_false_iff_ne.mpr (GE (z_ hb)),[],.nil,_,#[],0,o_ _ rfl,⟨rfl,rfl,rfl⟩,rfl,rfl,List.nodup_nil⟩
def Ab:TE:=fun _ H Q=>∀ p,H p=none→Q (.ref p) (upd H p (.dT []))
section
variable {X:Cx} {pos:Pos}
theorem tW:PE X (.Dict [] [] pos) Ab:=fun pins s σ H Q I h =>
 wpAny_Dict_empty ⟨.ref s.heap.objs.size,_,I.laid (a:=s.heap.objs.size) (o:=.dT []) (t':=s.toks) (fun _ _ q=>e_ _ q) (j_ _) (tU s.heap I.big),rfl,h _ (I.hok.fresh (j_ _))⟩
end
structure M1 (X:Cx) (o:Expr) (m:Str) (apos:Pos) (e:Expr) (cpos:Pos):Prop where
 base:GU o m X.env (eval o X.env)=eval o X.env
 few:((EY cpos (f_ [e] X.env)).all (fun x=>!x.1) && (G1 cpos (F4 [] X.env)).all (fun x=>x.1.isSome)
  && decide (([e]:List Expr).length + ([]:List GY).length + (if ([]:List GY).isEmpty then 0 else 1) < 30))=true
 line:(apos.endLine == cpos.line)=true
 trees:EY cpos (f_ [e] X.env)=[(false,eval e X.env)]
structure M2 (X:Cx) (o:Expr) (m:Str) (apos:Pos) (e f:Expr) (cpos:Pos):Prop where
 base:GU o m X.env (eval o X.env)=eval o X.env
 few:((EY cpos (f_ [e,f] X.env)).all (fun x=>!x.1) && (G1 cpos (F4 [] X.env)).all (fun x=>x.1.isSome)
  && decide (([e,f]:List Expr).length + ([]:List GY).length + (if ([]:List GY).isEmpty then 0 else 1) < 30))=true
 line:(apos.endLine == cpos.line)=true
 trees:EY cpos (f_ [e,f] X.env)=[(false,eval e X.env),(false,eval f X.env)]
def IsD (H:Hp) (a:Addr):Prop:=(∃ kvs,Rd H a (.dK kvs))∨∃ kvs,Rd H a (.dT kvs)
theorem u1 {X:Cx} {pins:List (Addr×Obj)} {σ:St} {H:Hp} {s:c_} {a:Addr} (I:Inv X pins σ H s) (d:IsD H a) :
 s.TypeIs (.ref a) "dict"∧(∀ b,r_ a=.ref b→∃ ob,s.heap.get? b=some ob∧ob.dict=none)∧(a == GS)=false:=by
 rcases d with ⟨kvs,e⟩ | ⟨kvs,e⟩
 · obtain ⟨_,hd,vs,_,dd⟩:=wX I.hok e
   refine ⟨dd.typeIs,fun b q=>?_,hd⟩
   cases q
   obtain ⟨ob,_,_,h1,h2,_⟩:=dd
   exact ⟨ob,h1,h2.2.1⟩
 · obtain ⟨_,hd,xs,_,dd⟩:=wY I.hok e
   refine ⟨dd.typeIs,fun b q=>?_,hd⟩
   cases q
   obtain ⟨ob,_,_,h1,h2,_⟩:=dd
   exact ⟨ob,h1,h2.2.1⟩
section
variable {X:Cx} {pins:List (Addr×Obj)} {σ:St} {H:Hp} {s:c_} {a:Addr} {y d:V} {u r:Value} {o:Option V} {A:u_} {E:Value→c_→Prop}
theorem Ac {Q:Value→c_→Prop} (hu:A.units + 1 < cLine) (I:Inv X pins σ H s) (g:DGet H a y o) (ry:RelV y u) (rd:RelV d r) (h:∀ w' s',Inv X pins σ H s'→RelV (o.getD d) w'→Q w' s') :
 l_ (s_ X.prog X.w) A (call (.builtin "dict.get") [.ref a,u,r]) Q E s:=by
 rcases g with ⟨kvs,k,e,ey,l⟩ | ⟨kvs,k,b,e,ey,eb,l⟩
 · subst ey
   obtain ⟨z,hd,vs,rel,dd⟩:=wX I.hok e
   refine call_meetsIn IE dd.typeIs Kz (J_ _ _ _) (meets_dict_get_default (bm X.prog X.w) a (wW ry) hd r) ⟨_,dd.mapOf,h _ _ (I.tok _) ?_⟩
   rw [l]
   exact (rel.val k).getD rd
 · subst ey
   cases (show u=r_ b from ry)
   obtain ⟨z,hd,xs,rel,dd⟩:=wY I.hok e
   refine call_meetsIn IE dd.typeIs Kz (J_ _ _ _) (meetsH_dict_get_default (J4 (bm X.prog X.w)) a b hd r) ⟨tupleKind_room_in1 hu,k,xs,cU I.hok eb,dd,h _ _ (I.tok _) ?_⟩
   rw [l]
   exact (rel.val k).getD rd
end
def Ad (td ty tx:TE):TE:=fun σ H Q=>td σ H fun x H1=>∃ a,x=.ref a∧IsD H1 a∧ty σ H1 fun y H2=>tx σ H2 fun z H3=>∃ o,DGet H3 a y o∧Q (o.getD z) H3
section
variable {X:Cx} {o e f:Expr} {apos cpos:Pos} {td ty tx:TE}
theorem tX (hu:X.A.units + 1 < cLine) (ho:PE X o td) (he:PE X e ty) (hf:PE X f tx) (m:M2 X o "get" apos e f cpos):PE X (.Call (.Attribute o "get" apos) [e,f] [] cpos) (Ad td ty tx):=by
 intro pins s σ H Q I h
 refine wpAny_Call_method m.base m.few m.line J8 IE PySem.F.type_dict_get (thn (ho pins s σ H _ I h) fun u s1 ⟨x,H1,I1,rx,a,ex,d,q1⟩=>?_)
 subst ex
 obtain rfl:u=r_ a:=rx
 obtain ⟨t1,t2,_⟩:=u1 I1 d
 refine ⟨t1,t2,?_⟩
 rw [m.trees]
 refine Io rfl (K9 (Hb (thn (he pins s1 σ H1 _ I1 q1) fun iv s2 ⟨y,H2,I2,ry,q2⟩ =>
  Hb (thn (hf pins s2 σ H2 _ I2 q2) fun fv s3 ⟨z,H3,I3,rz,ov,g,q3⟩=>Im ?_))))
 exact Ac hu I3 g ry rz fun w' s4 I4 rw'=>⟨_,H3,I4,rw',q3⟩
end
section
variable {X:Cx} {pins:List (Addr×Obj)} {σ:St} {H:Hp} {s:c_} {a:Addr} {y:V} {u:Value} {A:u_} {E:Value→c_→Prop}
end
end L2
namespace FD
open PySem PySem.Spec PyProof.Rows L2
abbrev Kv:=List (List Str×Dv)
def NoD (u:HO):Prop:=∀ kvs,u≠.dT kvs
section
variable {K:ck} {H H':Hp}
mutual
theorem Rep.off (k:∀ b u,NoD u→H b=some u→H' b=some u):∀ (d:Dv) (v:V),Rep K H d v→Rep K H' d v
 | .non,_,h=>h
 | .bl _,_,h=>h
 | .int _,_,h=>h
 | .str _,_,h=>h
 | .tup ds,v,h=>by
  obtain ⟨a,xs,r,h,q⟩:=h.tupE
  exact ⟨a,xs,r,k _ _ (fun _ z=>by cases z) h,Reps.off k ds xs q⟩
 | .lst ds,v,h=>by
  obtain ⟨a,xs,r,h,q⟩:=h.lstE
  exact ⟨a,xs,r,k _ _ (fun _ z=>by cases z) h,Reps.off k ds xs q⟩
 | .scr ns,v,h=>by
  obtain ⟨a,r,h⟩:∃ a,v=.ref a∧SqL K H a (ns.map V.int):=h
  refine ⟨a,r,?_⟩
  rcases h with (h | ⟨o,h⟩) | h
  · exact .inl (.inl (k _ _ (fun _ z=>by cases z) h))
  · exact .inl (.inr ⟨o,k _ _ (fun _ z=>by cases z) h⟩)
  · exact .inr h
 | .exn c,v,h=>by
  obtain ⟨a,o,u,C,r,h,q⟩:∃ a o u C,v=.ref a∧H a=some (.frz o u)∧o.cls=.ref C∧GO K EA (xnm c)=some (some (.ref C)):=h
  exact ⟨a,o,u,C,r,k _ _ (fun _ z=>by cases z) h,q⟩
theorem Reps.off (k:∀ b u,NoD u→H b=some u→H' b=some u):∀ (ds:List Dv) (vs:List V),Reps K H ds vs→Reps K H' ds vs
 | [],_,h=>h
 | d :: ds,vs,h=>by
  obtain ⟨v,us,r,h,q⟩:∃ v us,vs=v :: us∧Rep K H d v∧Reps K H ds us:=h
  exact ⟨v,us,r,Rep.off k d v h,Reps.off k ds us q⟩
end
end
def kS (k:List Str):List Key:=k.map Km
theorem qC {k j:List Str} (h:kS k=kS j):k=j:=(List.map_inj_right fun a b h=>Sum.inr.inj h).mp h
def u3 (kv:Kv) (k:List Str) (d:Dv):Kv:=if (kv.any fun p=>decide (p.1=k))=true then kv.map (fun p=>if p.1=k then (p.1,d) else p) else kv ++ [(k,d)]
def qD (kv:Kv) (k:List Str):Option Dv:=(kv.find? fun p=>decide (p.1=k)).map (·.2)
inductive KD (K:ck) (H:Hp):Kv→List (List Key×V)→Prop
 | nil:KD K H [] []
 | cons {k:List Str} {d:Dv} {v:V} {kv:Kv} {kvs:List (List Key×V)}:Rep K H d v→KD K H kv kvs→KD K H ((k,d) :: kv) ((kS k,v) :: kvs)
section
variable {K:ck} {H H':Hp}
theorem KD.mono (f:∀ d v,Rep K H d v→Rep K H' d v):∀ {kv:Kv} {kvs:List (List Key×V)},KD K H kv kvs→KD K H' kv kvs
 | _,_,.nil=>.nil
 | _,_,.cons r t=>.cons (f _ _ r) (KD.mono f t)
theorem KD.length:∀ {kv:Kv} {kvs:List (List Key×V)},KD K H kv kvs→kv.length=kvs.length
 | _,_,.nil=>rfl
 | _,_,.cons r t=>by rw [EG,EG,KD.length t]
theorem KD.any (k:List Str):∀ {kv:Kv} {kvs:List (List Key×V)},KD K H kv kvs→(kvs.any fun p=>decide (p.1=kS k))=kv.any fun p=>decide (p.1=k)
 | _,_,.nil=>rfl
 | _,_,.cons (k:=j) r t=>by
  rw [F8,F8,KD.any k t]
  congr 1
  show decide (kS j=kS k)=decide (j=k)
  rw [Fh]
  simp only [decide_eq_true_eq]
  exact ⟨qC,fun h=>by rw [h]⟩
theorem KD.map {k:List Str} {d:Dv} {v:V} (r0:Rep K H d v):∀ {kv:Kv} {kvs:List (List Key×V)},KD K H kv kvs→KD K H (kv.map fun p=>if p.1=k then (p.1,d) else p) (kvs.map fun p=>if p.1=kS k then (p.1,v) else p)
 | _,_,.nil=>.nil
 | _,_,.cons (k:=j) r t=>by
  rw [t_,t_]
  by_cases h:j=k
  · subst h
    simp only [if_true]
    exact .cons r0 (KD.map r0 t)
  · have h2:¬ kS j=kS k:=fun z=>h (qC z)
    simp only [h,h2,if_false]
    exact .cons r (KD.map r0 t)
theorem KD.snoc {k:List Str} {d:Dv} {v:V} (r0:Rep K H d v):∀ {kv:Kv} {kvs:List (List Key×V)},KD K H kv kvs→KD K H (kv ++ [(k,d)]) (kvs ++ [(kS k,v)])
 | _,_,.nil=>.cons r0 .nil
 | _,_,.cons r t=>.cons r (KD.snoc r0 t)
theorem KD.put {k:List Str} {d:Dv} {v:V} (r0:Rep K H d v) {kv:Kv} {kvs:List (List Key×V)} (t:KD K H kv kvs):KD K H (u3 kv k d) (kU kvs (kS k) v):=by
 unfold u3 kU
 rw [t.any k]
 split
 · exact KD.map r0 t
 · exact KD.snoc r0 t
theorem KD.val (k:List Str):∀ {kv:Kv} {kvs:List (List Key×V)},KD K H kv kvs→(match qD kv k with | some d=>∃ v,jE kvs (kS k)=some v∧Rep K H d v | none=>jE kvs (kS k)=none)
 | _,_,.nil=>rfl
 | _,_,.cons (k:=j) (d:=d) (v:=v) (kv:=kv) (kvs:=kvs) r t=>by
  by_cases h:j=k
  · subst h
    have e1:qD ((j,d) :: kv) j=some d:=by simp [qD]
    have e2:jE ((kS j,v) :: kvs) (kS j)=some v:=fI rfl
    rw [e1]
    exact ⟨v,e2,r⟩
  · have e1:qD ((j,d) :: kv) k=qD kv k:=by simp [qD,Gu,h]
    have e2:jE ((kS j,v) :: kvs) (kS k)=jE kvs (kS k):=fJ fun z=>h (qC z)
    rw [e1,e2]
    exact KD.val k t
end
def Off (a:Addr) (H H':Hp):Prop:=∀ b u,b≠a→H b=some u→H' b=some u
structure T1 (X:Cx) (i:Nat) (a:Addr) (H:Hp) (σ:L2.St) (ρ:Ev) (kv:Kv):Prop where
 ia:σ[i]?=some (some (.ref a))
 no:∀ d,ρ[i]?≠some (some d)
 env:Envs X.K H σ ρ
 dct:∃ kvs,H a=some (.dT kvs)∧KD X.K H kv kvs
section
variable {X:Cx} {i:Nat} {a:Addr} {H H':Hp} {σ:L2.St} {ρ:Ev} {kv:Kv}
theorem T1.mono (T:T1 X i a H σ ρ kv) (e:Same H H'):T1 X i a H' σ ρ kv:=by
 obtain ⟨kvs,h1,h2⟩:=T.dct
 exact ⟨T.ia,T.no,T.env.mono e,kvs,e _ _ h1,h2.mono fun d v r=>Rep.mono e d v r⟩
theorem T1.set (T:T1 X i a H σ ρ kv) {j:Nat} (hj:j≠i) {d:Dv} {v:V} (r:Rep X.K H d v):T1 X i a H (σ.set j (some v)) (ρ.set j (some d)) kv :=
 ⟨by rw [v_ hj]; exact T.ia,fun d'=>by rw [v_ hj]; exact T.no d',T.env.set r,T.dct⟩
theorem T1.put (T:T1 X i a H σ ρ kv) {k:List Str} {d:Dv} {v:V} {kvs:List (List Key×V)} (h1:H a=some (.dT kvs)) (h2:KD X.K H kv kvs) (r:Rep X.K H d v):T1 X i a (upd H a (.dT (kU kvs (kS k) v))) σ ρ (u3 kv k d):=by
 have k0:∀ b u,NoD u→H b=some u→upd H a (.dT (kU kvs (kS k) v)) b=some u:=fun b u hn q=>by
  have hb:b≠a:=fun z=>by rw [z,h1] at q; cases q; exact hn _ rfl
  rw [am hb]; exact q
 refine ⟨T.ia,T.no,⟨T.env.len,fun j d' hj=>?_⟩,_,ai,(h2.put r).mono fun d v r=>Rep.off k0 d v r⟩
 obtain ⟨v',q1,q2⟩:=T.env.at' j d' hj
 exact ⟨v',q1,Rep.off k0 _ _ q2⟩
end
def C5:Dv→Option (List Str)
 | .tup ds=>aN ds
 | _=>none
theorem qE {K:ck} {H:Hp} {d:Dv} {k:List Str} {v:V} (h:C5 d=some k) (r:Rep K H d v):∃ b,v=.ref b∧H b=some (.tup ((kS k).map kV)):=by
 cases d <;> try (cases h; done)
 rename_i ds
 obtain ⟨a,xs,rfl,h1,h2⟩:=r.tupE
 refine ⟨a,rfl,?_⟩
 have e:∀ {ds:List Dv} {k:List Str} {xs:List V},aN ds=some k→Reps K H ds xs→xs=(kS k).map kV:=by
  intro ds
  induction ds with
  | nil =>
   intro k xs h r
   cases h
   exact (show xs=[] from r)
  | cons d ds ih =>
   intro k xs h r
   obtain ⟨v,us,rfl,rv,rs⟩:∃ v us,xs=v :: us∧Rep K H d v∧Reps K H ds us:=r
   cases d <;> try (cases h; done)
   rename_i z
   cases hs:aN ds with
   | none=>simp [aN,hs] at h
   | some ks =>
    simp [aN,hs] at h
    subst h
    cases (show v=.str z from rv)
    rw [ih hs rs]
    rfl
 rw [h1,e h h2]
abbrev FnV:=Ev→Kv→Option Dv
def tV (X:Cx) (i:Nat) (g:FnV):TE:=fun σ H Q=>∃ a ρ kv,T1 X i a H σ ρ kv∧∃ d,g ρ kv=some d∧∀ v H',Same H H'→Rep X.K H' d v→Q v H'
structure FV (X:Cx) (i:Nat) (e:Expr) (g:FnV):Prop where
 h:PE X e (tV X i g)
def vE (f:FnE):FnV:=fun ρ _=>match f ρ with
 | some (.ok d)=>some d
 | _=>none
def w8 (fk fd:FnE):FnV:=fun ρ kv=>match fk ρ,fd ρ with
 | some (.ok k),some (.ok d)=>(match C5 k with
  | some k=>some ((qD kv k).getD d)
  | none=>none)
 | _,_=>none
def iG (F:List Dv→Option (Rs Dv)) (g:FnV) (f:FnE):FnV:=fun ρ kv=>match g ρ kv,f ρ with
 | some x,some (.ok y)=>(match F [x,y] with
  | some (.ok d)=>some d
  | _=>none)
 | _,_=>none
abbrev FnD:=Ev→Kv→Option (Ev×Kv)
def tDc (X:Cx) (i:Nat) (f:FnD):TS:=fun D σ H=>∃ a ρ kv,T1 X i a H σ ρ kv∧∃ ρ' kv',f ρ kv=some (ρ',kv')∧∀ σ' H',Off a H H'→T1 X i a H' σ' ρ' kv'→D.nx σ' H'
structure FDs (X:Cx) (i:Nat) (st:List Stmt) (f:FnD):Prop where
 h:PSs X st (tDc X i f)
structure tY (X:Cx) (i:Nat) (st:Stmt) (f:FnD):Prop where
 h:PS X st (tDc X i f)
def w9 (fk:FnE) (g:FnV):FnD:=fun ρ kv=>match g ρ kv,fk ρ with
 | some d,some (.ok k)=>(match C5 k with
  | some k=>if kv.length < 100000 then some (ρ,u3 kv k d) else none
  | none=>none)
 | _,_=>none
def jf (j:Nat) (body:FnD):List Dv→FnD
 | [],ρ,kv=>some (ρ,kv)
 | d :: ds,ρ,kv=>match body (ρ.set j (some d)) kv with
  | some (ρ',kv')=>jf j body ds ρ' kv'
  | none=>none
def xa (j:Nat) (src:FnE) (body:FnD):FnD:=fun ρ kv=>match src ρ with
 | some (.ok (.tup ds))=>jf j body ds ρ kv
 | _=>none
theorem Off.refl (a:Addr) (H:Hp):Off a H H:=fun _ _ _ h=>h
theorem Off.trans {a:Addr} {H1 H2 H3:Hp} (p:Off a H1 H2) (q:Off a H2 H3):Off a H1 H3:=fun b u n h=>q b u n (p b u n h)
theorem Off.of {a:Addr} {H H':Hp} (e:Same H H'):Off a H H':=fun b u _ h=>e b u h
section
variable {X:Cx} {i:Nat} {e ke de:Expr} {fe fk fd:FnE} {g:FnV} {pos:Pos}
theorem C7 (he:FE X e fe):FV X i e (vE fe):=⟨fun pins s σ H Q I ⟨a,ρ,kv,T,d,hd,q⟩=>he.h pins s σ H Q I ⟨ρ,T.env,by
 unfold vE at hd
 split at hd
 · rename_i d' h
   cases hd
   rw [h]
   exact q
 · cases hd⟩⟩
theorem Ae {x:Str} {xp apos cpos:Pos} (hu:X.A.units + 1 < cLine) (hx:PE X (.Name x xp) (uy i)) (hk:FE X ke fk) (hd:FE X de fd) (m:M2 X (.Name x xp) "get" apos ke de cpos) :
 FV X i (.Call (.Attribute (.Name x xp) "get" apos) [ke,de] [] cpos) (w8 fk fd):=⟨fun pins s σ H Q I ⟨a,ρ,kv,T,d,hg,q⟩=>by
 refine tX hu hx hk.h hd.h m pins s σ H Q I ⟨.ref a,T.ia,a,rfl,?_⟩
 obtain ⟨kvs,h1,h2⟩:=T.dct
 refine ⟨.inr ⟨kvs,.inl h1⟩,ρ,T.env,?_⟩
 unfold w8 at hg
 split at hg
 · rename_i k0 d0 e1 e2
   split at hg
   · rename_i k ek
     cases hg
     rw [e1]
     intro vk H1 s1 rk
     refine ⟨ρ,(T.mono s1).env,?_⟩
     rw [e2]
     intro vd H2 s2 rd
     obtain ⟨b,rfl,hb⟩:=qE ek (Rep.mono s2 _ _ rk)
     have T2:=T.mono (s1.trans s2)
     obtain ⟨kvs2,g1,g2⟩:=T2.dct
     refine ⟨jE kvs2 (kS k),DGet.t g1 hb,q _ H2 (s1.trans s2) ?_⟩
     have hv:=g2.val k
     cases hq:qD kv k with
     | none =>
      rw [hq] at hv
      rw [hv]
      exact rd
     | some d1 =>
      rw [hq] at hv
      obtain ⟨v1,e3,r3⟩:=hv
      rw [e3]
      exact r3
   · cases hg
 · cases hg⟩
theorem Ag {x:Str} {xp pos':Pos} {value:Expr} (hu:X.A.units + 1 < cLine) (hx:PE X (.Name x xp) (uy i)) (hk:FE X ke fk) (hv:FV X i value g) (hs:Fk value (some (.Subscript (.Name x xp) ke pos')) pos.line X.env=pure false:=by kernel_rfl) :
 tY X i (.Assign [.Subscript (.Name x xp) ke pos'] value pos) (w9 fk g):=⟨fun pins s σ H D I ⟨a,ρ,kv,T,ρ',kv',hf,q⟩=>by
 unfold w9 at hf
 split at hf
 · rename_i d k0 e1 e2
   split at hf
   · rename_i k ek
     split at hf
     · rename_i hl
       cases hf
       refine wZ hu hx hk.h hv.h hs pins s σ H D I ⟨a,ρ,kv,T,d,e1,fun v H1 s1 r1=>⟨.ref a,T.ia,ρ,(T.mono s1).env,?_⟩⟩
       rw [e2]
       intro vk H2 s2 rk
       obtain ⟨b,rfl,hb⟩:=qE ek rk
       have T2:=T.mono (s1.trans s2)
       obtain ⟨kvs2,g1,g2⟩:=T2.dct
       have hlen:kvs2.length < sizeLine:=by
        have:=g2.length
        have h2:=bn (n:=kvs2.length + 1) (by omega)
        omega
       refine ⟨a,_,rfl,DPut.t g1 hb hlen,q σ _ (fun b u hn h=>?_) (T2.put g1 g2 (Rep.mono s2 _ _ r1))⟩
       rw [am hn]
       exact s2 _ _ (s1 _ _ h)
     · cases hf
   · cases hf
 · cases hf⟩
theorem xb {st:Stmt} {f:FnD} (h:tY X i st f):FDs X i [st] f:=⟨kZ h.h⟩
theorem SqT.offD {K:ck} {a b:Addr} {H H':Hp} {xs:List V} {kvs:List (List Key×V)} (k:Off a H H') (ha:H a=some (.dT kvs)) (h:H b=some (.tup xs)):H' b=some (.tup xs) :=
 k b _ (fun z=>by rw [z,ha] at h; cases h) h
theorem Ah {y:Str} {py:Pos} {iter:Expr} {body:List Stmt} {src:FnE} {fb:FnD} (j:Nat) (hij:j≠i) (hp:Ia (s_ X.prog X.w) X.A X.env X.xe) (hc:X.calm=true) (hi:FE X iter src) (hg:PG X (.Name y py) (oP j)) (hb:FDs X i body fb)
 (hs:∀ x,EJ iter X.env x=pure x:=by intro _; kernel_rfl):tY X i (.For (.Name y py) iter body [] pos) (xa j src fb):=⟨fun pins s σ H D I ⟨a,ρ,kv,T,ρ',kv',hf,q⟩=>by
 refine mo hp hc (yj hi.h) hg hb.h hs pins s σ H D I ⟨ρ,T.env,?_⟩
 unfold xa at hf
 split at hf
 · rename_i ds hd
   rw [hd]
   intro v H1 s1 r1
   obtain ⟨b,xs,rfl,h1,h2⟩:=r1.tupE
   refine ⟨b,rfl,⟨xs,SqT.of h1⟩,?_⟩
   have T1':=T.mono s1
   have hlen:ds.length=xs.length:=by
    have:=h2.length
    omega
   refine ⟨fun n m σ' H'=>m=ds.length - n∧n≤ds.length∧Off a H1 H'∧H' b=some (.tup xs)∧Reps X.K H' ds xs∧∃ ρ1 kv1,T1 X i a H' σ' ρ1 kv1∧jf j fb (ds.drop n) ρ1 kv1=some (ρ',kv'),⟨ds.length,by simp,EK _,Off.refl a H1,h1,h2,ρ,kv,T1',by simpa using hf⟩,?_⟩
   rintro n m σ' H' ⟨rfl,hn,of1,hb',hr',ρ1,kv1,Tn,hlo⟩
   by_cases hlt:n < ds.length
   · have hx:xs[n]?=some xs[n]:=n_ (by omega)
     have hdn:ds[n]?=some ds[n]:=n_ hlt
     refine .inr ⟨⟨xs,xs[n],SqT.of hb',hx⟩,fun σ2 H2=>Off a H1 H2∧H2 b=some (.tup xs)∧Reps X.K H2 ds xs∧∃ ρ2 kv2,T1 X i a H2 σ2 ρ2 kv2∧jf j fb (ds.drop (n + 1)) ρ2 kv2=some (ρ',kv'),fun σ2 H2 z=>⟨ds.length - (n + 1),by omega,rfl,hlt,z⟩,fun x H2 yl=>?_⟩
     obtain ⟨rfl,hyl⟩:=yl
     have ex:=hyl xs (SqT.of hb')
     rw [hx] at ex
     cases ex
     have rd:Rep X.K H2 ds[n] xs[n]:=FD.reps_at hr' n _ _ hdn hx
     rw [c4 hdn] at hlo
     unfold jf at hlo
     split at hlo
     · rename_i ρ2 kv2 hbd
       refine ⟨a,_,kv1,Tn.set hij rd,ρ2,kv2,hbd,fun σ3 H3 of3 T3=>⟨of1.trans of3,?_,?_,ρ2,kv2,T3,hlo⟩⟩
       · obtain ⟨kvs,g1,_⟩:=Tn.dct
         exact SqT.offD (K:=X.K) of3 g1 hb'
       · obtain ⟨kvs,g1,_⟩:=Tn.dct
         exact Reps.off (fun c u hn h=>of3 c u (fun z=>by rw [z,g1] at h; cases h; exact hn _ rfl) h) _ _ hr'
     · cases hlo
   · have hn':n=ds.length:=by omega
     subst hn'
     rw [HC] at hlo
     cases hlo
     exact .inl ⟨⟨xs,SqT.of hb',by omega⟩,q σ' H' ((Off.of s1).trans of1) Tn⟩
 · cases hf⟩
theorem tZ {x:Str} {p cpos:Pos} {e1 e2:Expr} {g1:FnV} {f2:FnE} {k':Nat} (k:Nat) (ps:List Str) (F:List Dv→Option (Rs Dv)) (h:Has X.prog X.w X.K X.mg X.base x k ps F) (hr:Room k' X.A) (hk:k≤k') (hg:Gl X x) (h1:FV X i e1 g1) (h2:FE X e2 f2) (hn:ps.length=2:=by kernel_rfl) (hdb:(x == ("__debug__":Str))=false:=by kernel_rfl)
 (he:f_ [e1,e2] X.env=(false,eval e1 X.env) :: f_ [e2] X.env:=by kernel_rfl) (he2:f_ [e2] X.env=(false,eval e2 X.env) :: f_ [] X.env:=by kernel_rfl) (hpl:(EY cpos (f_ [e2] X.env)).any (·.1)=false:=by kernel_rfl) :
 FV X i (.Call (.Name x p) [e1,e2] [] cpos) (iG F g1 f2):=by
 obtain ⟨f,fd,G,hm,hkp,hb⟩:=h
 refine ⟨fun pins s σ H Q I ⟨a,ρ,kv,T,d,hd,q⟩=>?_⟩
 unfold iG at hd
 split at hd
 · rename_i d1 d2 q1 q2
   split at hd
   · rename_i d' hF
     cases hd
     refine o9 (G.mono hk) hr hg hm hkp hb .nil yC (fR h1.h (fR h2.h o7 he2) he) hdb he hpl pins s σ H Q I ⟨a,ρ,kv,T,d1,q1,fun v1 H1 s1 r1=>⟨ρ,(T.mono s1).env,?_⟩⟩
     rw [q2]
     intro v2 H2 s2 r2
     refine ⟨[d1,d2],⟨v1,[v2],rfl,Rep.mono s2 _ _ r1,v2,[],rfl,r2,rfl⟩,hn.symm,?_⟩
     rw [hF]
     exact fun v H' s3 r3=>q v H' ((s1.trans s2).trans s3) r3
   · cases hd
 · cases hd
def qF (i:Nat) (f g:FnD) (rest:Ev→Kv→Option Fl):FnS:=fun ρ=>match f (ρ.set i none) [] with
 | some (ρ1,kv1)=>(match g ρ1 kv1 with
  | some (ρ2,kv2)=>rest ρ2 kv2
  | none=>none)
 | none=>none
def tR (X:Cx) (i:Nat) (r:Ev→Kv→Option Fl):TS:=fun D σ H=>∃ a ρ kv H0,T1 X i a H σ ρ kv∧Same H0 H∧H0 a=none∧OutS X H0 (r ρ kv) D
structure FR (X:Cx) (i:Nat) (sts:List Stmt) (r:Ev→Kv→Option Fl):Prop where
 h:PSs X sts (tR X i r)
theorem ua {x:Str} {xp dp:Pos} {s1 s2:Stmt} {sts:List Stmt} {f1 f2:FnD} {r:Ev→Kv→Option Fl} (hN:X.N.Nodup) (hi:X.N[i]?=some x) (hx:Loc X.env.scope x) (h1:tY X i s1 f1) (h2:tY X i s2 f2) (hr:FR X i sts r)
 (hs:Fk (.Dict [] [] dp) (some (.Name x xp)) pos.line X.env=pure false:=by kernel_rfl) (hf:X.fn x=true∨X.env.scope.names.lookup x=some .local:=by first | exact .inl rfl | exact .inr rfl | assumption) :
 FSs X (.Assign [.Name x xp] (.Dict [] [] dp) pos :: s1 :: s2 :: sts) (qF i f1 f2 r):=⟨fun pins s σ H D I ⟨ρ,E,o⟩=>by
 refine cG (hU (i:=i) hN hi hx tW hs hf) (cG h1.h (cG h2.h hr.h)) pins s σ H D I fun p hp=>?_
 have hil:i < σ.length:=by rw [I.len]; exact (B_.mp hi).1
 have s0:Same H (upd H p (.dT [])):=aq hp _
 have T0:T1 X i p (upd H p (.dT [])) (σ.set i (some (.ref p))) (ρ.set i none) []:=by
  have E1:=(E.mono s0).fgt1 i
  refine ⟨ED hil,fun d=>?_,⟨by rw [EV]; exact E1.len,fun j d hj=>?_⟩,[],ai,.nil⟩
  · by_cases hl:i < ρ.length
    · rw [ED hl]; exact fun z=>by cases z
    · rw [EI (by rw [EV]; omega)]; exact fun z=>by cases z
  · have hij:i≠j:=fun z=>by
     subst z
     by_cases hl:i < ρ.length
     · rw [ED hl] at hj; cases hj
     · rw [EI (by rw [EV]; omega)] at hj; cases hj
    obtain ⟨v,q1,q2⟩:=E1.at' j d hj
    exact ⟨v,by rw [v_ hij]; exact q1,q2⟩
 unfold qF at o
 split at o
 · rename_i ρ1 kv1 e1
   split at o
   · rename_i ρ2 kv2 e2
     refine ⟨p,_,[],T0,ρ1,kv1,e1,fun σ1 H1 of1 T1'=>⟨p,ρ1,kv1,T1',ρ2,kv2,e2,fun σ2 H2 of2 T2'=>⟨p,ρ2,kv2,H,T2',fun b u hb=>?_,hp,o⟩⟩⟩
     have hbp:b≠p:=fun z=>by rw [z,hp] at hb; cases hb
     exact of2 b u hbp (of1 b u hbp (s0 b u hb))
   · exact o.elim
 · exact o.elim⟩
end
end FD
namespace FD
open PySem PySem.Spec PyProof.Rows L2 TS
section
variable {prog:Program} {w:w_} {A:u_} {E:Value→c_→Prop} {s:c_} {v d it:Addr} {es:Array DictEntry} {ep i:Nat} {o:Obj}
theorem qG {Q:Value→c_→Prop} (hv:s.heap.IsValuesView v d) (ho:s.heap.get? d=some o) (hd:o.data=.dict es ep)
 (hQ:Q (.ref s.heap.objs.size) { s with heap:=s.heap.push { cls:=.type "dict_valueiterator",data:=.fields #[.ref d,.int 0 0,.int es.size 0,.int ep 0] } }):l_ (s_ prog w) A (pyIter (.ref v)) Q E s:=by
 obtain ⟨ov,g1,g2,g3⟩:=id hv
 refine wpAny_pyIter_slot hv.typeIs IU (Ft IU hv.typeIs PySem.F.entry_dict_values_iter ?_ (PySem.F.args_dict_values_iter_1 _))
 unfold JL.«dict_values.__iter__»; refine a_ (d_ (a_ ?_))
 unfold MV; refine a_ (F3 g1 g3 (x:=.ref d) rfl (d_ (a_ ?_)))
 unfold Mj; refine a_ (JF ho hd (a_ (KL ho hd ?_)))
 simp only [show Hi "dict_valueiterator"=false by decide,i_,if_false]
 refine Fq (d_ ⟨_,rfl,"dict_valueiterator",_,⟨_,o_ _ rfl,rfl⟩,Ff.lookup,?_⟩)
 simpa [IX] using hQ
theorem qH {x:Value} {Q:Option Value→c_→Prop} (hit:s.heap.IsValIter it d i es.size ep) (hod:s.heap.get? d=some o) (hdd:o.data=.dict es ep) (hx:(es[i]?).map (·.val)=some x)
 (hQ:∀ h',h'.IsValIter it d (i + 1) es.size ep→FJ it s.heap h'→Q (some x) { s with heap:=h' }):l_ (s_ prog w) A (IY (.ref it)) Q E s:=by
 obtain ⟨oi,ho,hc,hd⟩:=id hit
 unfold IY; refine a_ (HJ (Fj (name:=b_ "__next__") hit.typeIs Ff (Ft Ff hit.typeIs Hz ?_ (Hv _))))
 refine a_ (d_ (a_ (a_ ?_)))
 first | refine a_ (Gk hit.typeIs (d_ (a_ (Jk ho hd ?_)))) | refine a_ (GR hit.typeIs (d_ (a_ (Jk ho hd ?_))))
 have hown:Hi "dict_valueiterator"=false:=by decide +kernel
 simp only [hown,if_false,i_]
 show l_ _ _ (if (r_ d == .none)=true then _ else _) _ _ s; rw [if_neg (show ¬ ((r_ d == .none)=true) from nofun)]
 refine a_ (d_ (a_ (JF hod hdd ?_))); rw [if_neg (by simp)]
 refine a_ (d_ (a_ (KL hod hdd ?_))); rw [if_neg (by simp)]; refine d_ ?_
 obtain ⟨e0,he,rfl⟩:=EB.mp hx
 simp only [if_false,show ¬ ((i:Int) < 0) from by omega,IA,he]; refine a_ ?_
 first | refine a_ (Gk hit.typeIs (d_ (a_ (Hm hit.typeIs ?_)))) | refine a_ (GR hit.typeIs (d_ (a_ (Hm hit.typeIs ?_))))
 show l_ _ _ (MF (.ref it) 1 (IX ((i:Int) + 1)) >>= _) _ _ s; refine a_ (Ji ho hd (by simp) ?_)
 have hi2:(s.heap.update it (Lz (·.setIfInBounds 1 (IX ((i:Int) + 1))))).IsValIter it d (i + 1) es.size ep:=⟨_,ID _ ho (KU (HU hd _)),(L4 ..).trans hc,by rw [HU hd]; simp [IX]⟩
 refine a_ (FB (a_ (Hm (s:={ s with heap:=s.heap.update it (Lz (·.setIfInBounds 1 (IX ((i:Int) + 1)))) }) hi2.typeIs (a_ (Hm (s:={ s with heap:=s.heap.update it (Lz (·.setIfInBounds 1 (IX ((i:Int) + 1)))) }) hi2.typeIs ?_)))))
 show l_ _ _ (pure e0.val) _ _ _
 exact d_ (d_ ⟨_,rfl,d_ (hQ _ hi2 (Gv ..))⟩)
theorem ub {Q:Option Value→c_→Prop} (hh:A.handled=none) (hit:s.heap.IsValIter it d i es.size ep) (hod:s.heap.get? d=some o) (hdd:o.data=.dict es ep) (hx:es.size≤i)
 (hQ:∀ h',Mv it s.heap h'→Q none { s with heap:=h' }):l_ (s_ prog w) A (IY (.ref it)) Q E s:=by
 obtain ⟨oi,ho,hc,hd⟩:=id hit
 unfold IY; refine a_ (HJ (Fj (name:=b_ "__next__") hit.typeIs Ff (Ft Ff hit.typeIs Hz ?_ (Hv _))))
 refine a_ (d_ (a_ (a_ ?_)))
 first | refine a_ (Gk hit.typeIs (d_ (a_ (Jk ho hd ?_)))) | refine a_ (GR hit.typeIs (d_ (a_ (Jk ho hd ?_))))
 have hown:Hi "dict_valueiterator"=false:=by decide +kernel
 simp only [hown,if_false,i_]
 show l_ _ _ (if (r_ d == .none)=true then _ else _) _ _ s; rw [if_neg (show ¬ ((r_ d == .none)=true) from nofun)]
 refine a_ (d_ (a_ (JF hod hdd ?_))); rw [if_neg (by simp)]
 refine a_ (d_ (a_ (KL hod hdd ?_))); rw [if_neg (by simp)]; refine d_ ?_
 simp only [if_false,show ¬ ((i:Int) < 0) from by omega,IA,Array.getElem?_eq_none hx]; refine a_ ?_
 first | refine a_ (Gk hit.typeIs (d_ ?_)) | refine a_ (GR hit.typeIs (d_ ?_))
 show l_ _ _ (MF (.ref it) 0 .none >>= _) _ _ s; refine a_ (Ji ho hd (by simp) ?_)
 show l_ _ _ (newExc (.type "StopIteration") [] >>= _) _ _ _; refine a_ ?_
 simp only [newTuple,newExc]; refine a_ (Fq ?_ (by size_fits))
 refine a_ (m:=Jl _ _) (wpAny_of_eq (a:=EQ) (by first | (simp only [Jl]; rfl) | rfl) (Fq ?_ (by size_fits)))
 simp only [raiseNew]; refine a_ (wpAny_handled ?_); rw [show A.in1.handled=none from hh]
 refine a_ (d_ (wpAny_throw ?_)); refine a_ (wpAny_isInstance (T:="StopIteration") (b:=true) ⟨_,o_ _ rfl,rfl⟩ isSubtype_stop ?_)
 exact d_ (hQ _ (((Gv ..).extBut.push _).push _))
theorem qI (hh:A.handled=none) (I d:Addr) (hne:d≠I) (es:Array DictEntry) (ep:Nat) :
 Walks prog w A I [I,d] [I] es.size (fun i v=>(es[i]?).map (·.val)=some v) (fun i h=>h.IsValIter I d i es.size ep∧∃ o,h.get? d=some o∧o.data=.dict es ep) where
 sub:=fun b hb=>by simp at hb; simp [hb]
 frame:=fun _ _ _ ⟨st,o,q1,q2⟩ hk=>⟨st.at fun o e=>hk I (by simp) o e,o,hk d (by simp) o q1,q2⟩
 item:=fun i s Q E hi ⟨st,o,q1,q2⟩ hQ=>by
  have hx:(es[i]?).map (·.val)=some es[i].val:=by simp [hi]
  refine qH st q1 q2 hx fun h' a b=>?_
  exact hQ _ h' s.toks hx ⟨a,o,b.extBut d o hne q1,q2⟩ fun b' o hb e=>b.extBut b' o (fun h=>hb (by simp [h])) e
 done:=fun s Q E ⟨st,o,q1,q2⟩ hQ=>ub hh st q1 q2 (j_ _) fun h' he'=>hQ h' s.toks fun b o hb e=>he' b o (fun h=>hb (by simp [h])) e
 self:=fun _ _ _ _ ⟨st,_⟩ hQ=>wpAny_pyIter_valiter st hQ
theorem uc (r d:Addr) (es:Array DictEntry) (ep:Nat):PySem.W.KdlSrc prog w "dict_values" r d es.size (fun i v=>(es[i]?).map (·.val)=some v) (fun h=>h.IsValuesView r d∧∃ o,h.get? d=some o∧o.data=.dict es ep) where
 type:=fun _ hm=>hm.1.typeIs
 there:=fun _ ⟨⟨_,h1,_⟩,_,h2,_⟩=>⟨q_ h1,q_ h2⟩
 keep:=fun _ _ ⟨⟨o,ho,x⟩,o2,h2,y⟩ hk=>⟨⟨o,hk r (.inl rfl) o ho,x⟩,o2,hk d (.inr rfl) o2 h2,y⟩
 notList:=by decide
 notTuple:=by decide
 hint:=fun _ _ _ _ hm hq=>PySem.W.kdl_hint_values hm.1.typeIs hq
 iter:=fun _ _ hh ⟨hv,o,h2,y⟩=>⟨_,_,(fun _ _ hq=>qG hv h2 y hq),qI hh _ d (z_ (q_ h2)) es ep,⟨⟨_,o_ _ rfl,rfl,rfl⟩,o,e_ _ h2,y⟩⟩
theorem kr {r:Addr} {R:List Value→c_→Prop} (hh:A.handled=none) (hv:s.heap.IsValuesView r d) (ho:s.heap.get? d=some o) (hd:o.data=.dict es ep) (hn:es.size≤sizeLine) (hr:r + 1=s.heap.objs.size)
 (h:∀ h' tk,(∀ b o,s.heap.get? b=some o→h'.get? b=some o)→s.heap.objs.size≤h'.objs.size→R (es.toList.map (·.val)) { s with heap:=h',toks:=tk }):l_ (s_ prog w) A (collect (.ref r)) R E s:=by
 refine PySem.W.kdu_collect (uc r d es ep) hh ⟨hv,o,ho,hd⟩ hn fun h' tk acc up it=>?_
 have e:acc.toList=es.toList.map (·.val):=by
  apply Iz
  intro j
  have hz:=it.1
  by_cases hj:j < acc.size
  · have:=it.2 j acc[j] (by simp [hj])
    simp only [FZ,Ex]
    rw [this]
    simp [hj]
  · rw [EI (by simp; omega),EI (by simp; omega)]
 rw [e]
 refine h h' tk up ?_
 obtain ⟨ov,g1,_⟩:=hv
 exact hr ▸ Nat.succ_le_of_lt (q_ (up _ _ g1))
theorem qJ {a:Addr} {Q:Value→c_→Prop} (hT:s.TypeIs (.ref a) "dict") (hd:(a == GS)=false)
 (h:Q (.ref s.heap.objs.size) { s with heap:=s.heap.push { cls:=.type "dict_values",data:=.fields #[.ref a] } }):l_ (s_ prog w) A (call (.builtin "dict.values") [.ref a]) Q E s:=by
 refine Ft JX hT PySem.F.entry_dict_values ?_ (PySem.F.args_dict_values_1 _)
 refine a_ ?_; unfold Builtin.Dict.noArgs; refine a_ (wpAny_notOrdered_dict hT ?_)
 show l_ _ _ (pure a) _ _ s; refine d_ ?_
 show l_ _ _ (KW a >>= _) _ _ s; unfold KW; rw [if_neg (by rw [hd]; exact nofun)]
 exact a_ (d_ (a_ (Fq (d_ ⟨_,rfl,h⟩))))
end
structure M0 (X:Cx) (o:Expr) (m:Str) (apos cpos:Pos):Prop where
 base:GU o m X.env (eval o X.env)=eval o X.env
 few:((EY cpos (f_ [] X.env)).all (fun x=>!x.1) && (G1 cpos (F4 [] X.env)).all (fun x=>x.1.isSome)
  && decide (([]:List Expr).length + ([]:List GY).length + (if ([]:List GY).isEmpty then 0 else 1) < 30))=true
 line:(apos.endLine == cpos.line)=true
 trees:EY cpos (f_ [] X.env)=[]
def iH (F:List Dv→Option (Rs Dv)):FnV:=fun _ kv=>match mX F (kv.map (·.2)) with
 | some (.ok d)=>some d
 | _=>none
theorem KD.reps {K:ck} {H:Hp}:∀ {kv:Kv} {kvs:List (List Key×V)},KD K H kv kvs→Reps K H (kv.map (·.2)) (kvs.map (·.2))
 | _,_,.nil=>rfl
 | _,_,.cons r t=>⟨_,_,rfl,r,KD.reps t⟩
theorem xc {H:Hp} {kvs:List (List Key×V)} {xs:List (List Key×Addr×Value)} (r:KT H kvs xs):Vals (kvs.map (·.2)) (xs.map (·.2.2)):=by
 induction r with
 | nil=>exact .nil
 | cons h _ ih=>exact .cons h.2.2 ih
section
variable {X:Cx} {i:Nat} {k':Nat} {x f:Str} {xp apos cpos p p2 kp pos:Pos}
theorem ud (k:Nat) (ps:List Str) (F:List Dv→Option (Rs Dv)) (h:Has X.prog X.w X.K X.mg X.base f k ps F) (hr:Room k' X.A) (hk:k + 2≤k') (h1:ps.length=1) (hg:Gl X "sorted") (hm:X.mg "sorted"=none) (hgx:Gl X f) (hx:PE X (.Name x xp) (uy i)) (m:M0 X (.Name x xp) "values" apos cpos)
 (hdb:(f == ("__debug__":Str))=false:=by kernel_rfl)
 (he:EY pos (f_ [.Call (.Attribute (.Name x xp) "values" apos) [] [] cpos] X.env)=(false,eval (.Call (.Attribute (.Name x xp) "values" apos) [] [] cpos) X.env) :: EY pos (f_ [] X.env):=by kernel_rfl)
 (hplain:(EY pos (f_ [.Call (.Attribute (.Name x xp) "values" apos) [] [] cpos] X.env)).any (·.1)=false:=by kernel_rfl)
 (hnil:EY pos (f_ [] X.env)=[]:=by kernel_rfl)
 (hall:(G1 pos (F4 [⟨some "key",.Name f p2,kp⟩] X.env)).all (·.1.isSome)=true:=by kernel_rfl)
 (hkw:(G1 pos (F4 [⟨some "key",.Name f p2,kp⟩] X.env)).any (·.1.isNone)=false:=by kernel_rfl)
 (hnm:(G1 pos (F4 [⟨some "key",.Name f p2,kp⟩] X.env)).filterMap (·.1)=[b_ "key"]:=by kernel_rfl) :
 FV X i (.Call (.Name "sorted" p) [.Call (.Attribute (.Name x xp) "values" apos) [] [] cpos] [⟨some "key",.Name f p2,kp⟩] pos) (iH F):=⟨fun pins s σ H Q I ⟨a,ρ,kv,T,d,hd,q⟩=>by
 obtain ⟨fa,fd,G,hmx,hkp,hb⟩:=h
 refine Gx (dP I hg hm (u:=.builtin "sorted") (by decide +kernel) ?_ (by decide) (by decide))
 refine callWith_kw ?_ he hplain hall hkw
 rw [he,hnil]
 refine Hb ?_
 refine wpAny_Call_method m.base m.few m.line J8 JX PySem.F.type_dict_values (thn (hx pins s σ H (fun v H'=>v=.ref a∧H'=H) I ⟨.ref a,T.ia,rfl,rfl⟩) fun u s1 ⟨v,H1,I1,rx,e1,e2⟩=>?_)
 subst e1 e2
 obtain rfl:u=r_ a:=rx
 obtain ⟨kvs,g1,g2⟩:=T.dct
 obtain ⟨t1,t2,t3⟩:=u1 I1 (.inr ⟨kvs,.inl g1⟩)
 refine ⟨t1,t2,?_⟩
 rw [m.trees]
 refine Io rfl (PySem.evalArgs_none (qJ t1 t3 (Im ?_)))
 obtain ⟨hz,_,xs,kt,o,es,ep,ho,hex,hdat,hes,_⟩:=z9 I1.hok g1
 have I2:=I1.kept (t':=s1.toks) (h':=s1.heap.push { cls:=.type "dict_values",data:=.fields #[.ref a] }) fun b u q=>e_ _ q
 refine kws_cons (kY I2 hgx hmx (kws_nil ?_) hdb)
 rw [hnm]
 show l_ _ _ (call (.builtin "sorted") [.ref s1.heap.objs.size] [(b_ "key",.ref fa)]) _ _ _
 unfold iH mX at hd
 split at hd
 · rename_i d' hd'
   cases hd
   split at hd'
   · rename_i rows hrows
     split at hd'
     · rename_i hcond
       cases hd'
       have hsz:es.size=xs.length:=by have:=congrArg Mx hes; simpa using this
       have hvs:es.toList.map (·.val)=xs.map (·.2.2):=by rw [hes,E_]; rfl
       have rr:=KD.reps g2
       refine tG (vs:=es.toList.map (·.val)) G (hr.mono hk) hb h1 I2 (fun Q' hQ=>kr (hr.hd) ⟨_,o_ _ rfl,rfl,rfl⟩ (e_ _ ho) hdat ?_ ?_ hQ) (by rw [hvs]; exact xc kt) rr hrows hcond.1 hcond.2.1 hcond.2.2 fun L ws' H' sm hL rw'=>q _ _ sm ⟨L,ws',rfl,hL,rw'⟩
       · rw [hsz]
         have:=JW kt
         omega
       · rw [Fw]
     · cases hd'
   · cases hd'
 · cases hd⟩
def Ai (j:Nat) (g:FnV) (f:FnS):Ev→Kv→Option Fl:=fun ρ kv=>match g ρ kv with
 | some d=>f (ρ.set j (some d))
 | none=>none
theorem Aj {e:Expr} {g:FnV} {sts:List Stmt} {fs:FnS} (j:Nat) {y:Str} {pos':Pos} (hN:X.N.Nodup) (hj:X.N[j]?=some y) (hy:Loc X.env.scope y) (he:FV X i e g) (hr:FSs X sts fs) (hs:Fk e (some (.Name y pos')) pos.line X.env=pure false:=by kernel_rfl) (hf:X.fn y=true∨X.env.scope.names.lookup y=some .local:=by first | exact .inl rfl | exact .inr rfl | assumption) :
 FR X i (.Assign [.Name y pos'] e pos :: sts) (Ai j g fs):=⟨fun pins s σ H D I ⟨a,ρ,kv,H0,T,sm,h0,o⟩=>by
 unfold Ai at o
 split at o
 · rename_i d hd
   exact cG (hU hN hj hy he.h hs hf) hr.h pins s σ H D I ⟨a,ρ,kv,T,d,hd,fun v H' s1 r=>⟨_,(T.env.mono s1).set r,OutS.mono (sm.trans s1) o⟩⟩
 · exact o.elim⟩
end
section
variable {X:Cx} {T:cT} {C:xT} {i j k':Nat} {x y f:Str} {xp dp py pos pos' apos cpos p p2 kp:Pos} {e ke de e1 e2 iter:Expr} {s1 s2:Stmt} {sts body:List Stmt} {fk fd src f2:FnE} {g g1:FnV} {fb d1 d2:FnD} {fs:FnS} {r:Ev→Kv→Option Fl} {F:List Dv→Option (Rs Dv)}
theorem qK (h1:tY X i s1 d1) (h2:tY X i s2 d2) (hr:FR X i sts r) (hN:ndB X.N=true:=by kernel_rfl) (hi:X.N[i]?=some x:=by kernel_rfl) (hx:dH X.env.scope x=true:=by kernel_rfl) (hf:X.fn x=true:=by kernel_rfl)
 (hs:Fk (.Dict [] [] dp) (some (.Name x xp)) pos.line X.env=pure false:=by kernel_rfl):FSs X (.Assign [.Name x xp] (.Dict [] [] dp) pos :: s1 :: s2 :: sts) (qF i d1 d2 r):=ua (c9 hN) hi (bJ hx) h1 h2 hr hs (.inl hf)
theorem xf (hp:Ia (s_ X.prog X.w) X.A X.env X.xe) (hi:FE X iter src) (hb:FDs X i body fb) (hij:JP j i=false:=by kernel_rfl) (hc:X.calm=true:=by kernel_rfl) (hN:ndB X.N=true:=by kernel_rfl) (hx:X.N[j]?=some y:=by kernel_rfl) (hl:dH X.env.scope y=true:=by kernel_rfl) (hf:X.fn y=true:=by kernel_rfl)
 (hs:∀ x,EJ iter X.env x=pure x:=by intro _; kernel_rfl):tY X i (.For (.Name y py) iter body [] pos) (xa j src fb) :=
 Ah j (Ga hij) hp hc hi (cq (c9 hN) hx (bJ hl) (.inl hf)) hb hs
theorem xg (hu:X.A.units + 64 < cLine) (hk:FE X ke fk) (hv:FV X i e g) (hN:X.N[i]?=some x:=by kernel_rfl) (hx:dH X.env.scope x=true:=by kernel_rfl) (hd:(x == ("__debug__":Str))=false:=by kernel_rfl) (hcd:(x == ("__classdict__":Str))=false:=by kernel_rfl) (hs:Fk e (some (.Subscript (.Name x xp) ke pos')) pos.line X.env=pure false:=by kernel_rfl) :
 tY X i (.Assign [.Subscript (.Name x xp) ke pos'] e pos) (w9 fk g):=Ag (by omega) (jd hN hx hd hcd) hk hv hs
theorem xh (hu:X.A.units + 64 < cLine) (hk:FE X ke fk) (hd:FE X de fd) (hN:X.N[i]?=some x:=by kernel_rfl) (hx:dH X.env.scope x=true:=by kernel_rfl) (hdb:(x == ("__debug__":Str))=false:=by kernel_rfl) (hcd:(x == ("__classdict__":Str))=false:=by kernel_rfl) (m:M2 X (.Name x xp) "get" apos ke de cpos:=by exact ⟨by kernel_rfl,by kernel_rfl,by kernel_rfl,by kernel_rfl⟩) :
 FV X i (.Call (.Attribute (.Name x xp) "get" apos) [ke,de] [] cpos) (w8 fk fd):=Ae (by omega) (jd hN hx hdb hcd) hk hd m
theorem qL (hT:HA X.prog X.w X.K X.mg X.base T) (hr:Room k' X.A) (hF:(T.lookup x).map (fun q=>q.2.2)=some F) (h1:FV X i e1 g1) (h2:FE X e2 f2) (hk:((T.lookup x).all fun q=>Nat.ble q.1 k' && JP q.2.1.length 2)=true:=by kernel_rfl) (hg:X.env.kindOf x=some .globalImplicit:=by kernel_rfl) (hdb:(x == ("__debug__":Str))=false:=by kernel_rfl)
 (he:f_ [e1,e2] X.env=(false,eval e1 X.env) :: f_ [e2] X.env:=by kernel_rfl) (he2:f_ [e2] X.env=(false,eval e2 X.env) :: f_ [] X.env:=by kernel_rfl) (hpl:(EY cpos (f_ [e2] X.env)).any (·.1)=false:=by kernel_rfl) :
 FV X i (.Call (.Name x p) [e1,e2] [] cpos) (iG F g1 f2):=by
 cases hq:T.lookup x with
 | none=>rw [hq] at hF; cases hF
 | some q =>
  rw [hq] at hF hk
  cases hF
  rw [KO,on] at hk
  exact tZ q.1 q.2.1 q.2.2 (hT.h x q hq) hr (IF hk.1) hg h1 h2 (IG hk.2) hdb he he2 hpl
theorem qM (hT:HA X.prog X.w X.K X.mg X.base T) (hM:MA X.mg C) (hr:Room k' X.A) (hF:(T.lookup f).map (fun q=>q.2.2)=some F) (hk:((T.lookup f).all fun q=>Nat.ble (q.1 + 2) k' && JP q.2.1.length 1)=true:=by kernel_rfl) (hg:X.env.kindOf (b_ "sorted")=some .globalImplicit:=by kernel_rfl) (hm:C.lookup (b_ "sorted")=some none:=by kernel_rfl) (hgx:X.env.kindOf f=some .globalImplicit:=by kernel_rfl)
 (hN:X.N[i]?=some x:=by kernel_rfl) (hx:dH X.env.scope x=true:=by kernel_rfl) (hd:(x == ("__debug__":Str))=false:=by kernel_rfl) (hcd:(x == ("__classdict__":Str))=false:=by kernel_rfl) (m:M0 X (.Name x xp) "values" apos cpos:=by exact ⟨by kernel_rfl,by kernel_rfl,by kernel_rfl,by kernel_rfl⟩) (hdb:(f == ("__debug__":Str))=false:=by kernel_rfl)
 (he:EY pos (f_ [.Call (.Attribute (.Name x xp) "values" apos) [] [] cpos] X.env)=(false,eval (.Call (.Attribute (.Name x xp) "values" apos) [] [] cpos) X.env) :: EY pos (f_ [] X.env):=by kernel_rfl)
 (hplain:(EY pos (f_ [.Call (.Attribute (.Name x xp) "values" apos) [] [] cpos] X.env)).any (·.1)=false:=by kernel_rfl) (hnil:EY pos (f_ [] X.env)=[]:=by kernel_rfl)
 (hall:(G1 pos (F4 [⟨some "key",.Name f p2,kp⟩] X.env)).all (·.1.isSome)=true:=by kernel_rfl)
 (hkw:(G1 pos (F4 [⟨some "key",.Name f p2,kp⟩] X.env)).any (·.1.isNone)=false:=by kernel_rfl)
 (hnm:(G1 pos (F4 [⟨some "key",.Name f p2,kp⟩] X.env)).filterMap (·.1)=[b_ "key"]:=by kernel_rfl) :
 FV X i (.Call (.Name "sorted" p) [.Call (.Attribute (.Name x xp) "values" apos) [] [] cpos] [⟨some "key",.Name f p2,kp⟩] pos) (iH F):=by
 cases hq:T.lookup f with
 | none=>rw [hq] at hF; cases hF
 | some q =>
  rw [hq] at hF hk
  cases hF
  rw [KO,on] at hk
  exact ud q.1 q.2.1 q.2.2 (hT.h f q hq) hr (IF hk.1) (IG hk.2) hg (hM.no hm) hgx (jd hN hx hd hcd) m hdb he hplain hnil hall hkw hnm
theorem xi (he:FV X i e g) (hr:FSs X sts fs) (hN:ndB X.N=true:=by kernel_rfl) (hj:X.N[j]?=some y:=by kernel_rfl) (hy:dH X.env.scope y=true:=by kernel_rfl) (hf:X.fn y=true:=by kernel_rfl) (hs:Fk e (some (.Name y pos')) pos.line X.env=pure false:=by kernel_rfl) :
 FR X i (.Assign [.Name y pos'] e pos :: sts) (Ai j g fs):=Aj j (c9 hN) hj (bJ hy) he hr hs (.inl hf)
end
end FD
namespace FD
open PySem PySem.Spec PyProof.Rows L2
theorem gK {i:Nat} {js:List Nat} {body:FnS} {ρ:Ev}:∀ {ds:List Dv},(∀ d∈ds,∃ ρ',body (ρ.set i (some d))=some (.nx ρ')∧fgt js ρ'=ρ)→∀ ρ0,fgt js ρ0=ρ→g8 i js body ds ρ0=some (.nx ρ)
 | [],_,ρ0,e=>by unfold g8; rw [e]
 | d :: ds,h,ρ0,e=>by
  obtain ⟨ρ',h1,h2⟩:=h d h_
  unfold g8
  rw [e,h1]
  exact gK (fun d' hd=>h d' (k_ _ hd)) ρ' h2
theorem C8 {c:FnB} {f g:FnS} {ρ:Ev} (h:c ρ=some (.ok true)):cV c f g ρ=f ρ:=by
 unfold cV; rw [h]; rfl
theorem gL {α:Type} {p:α→Bool} {l:List α} (h:l.all p=true) {x:α} (hx:x∈l):p x=true:=E6.mp h x hx
end FD
namespace G
open PySem PySem.Spec PyProof.Rows L2 FD
def top (i:Nat):Stmt:=PySem.Challenge.pw_notejar_k56_whole_compared.main.body.getD i (.Pass ⟨0,0,0,0⟩)
section
variable {X:Cx} {a b c o e:Expr} {es:List Expr} {fa fb fc fo:FnE} {ga:FnA} {pos p pt apos cpos:Pos}
theorem Ak (ha:FE X a fa) (hb:FE X b fb):FE X (.BinOp a .Add b pos) (f2 gW fa fb):=nH o_add y0 ha hb
theorem Al (ha:FE X a fa) (hb:FE X b fb):FE X (.BinOp a .Add b pos) (f2 bg fa fb):=nH zt zu ha hb
theorem Am (ha:FE X a fa) (hb:FE X b fb):FE X (.BinOp a .Sub b pos) (f2 y3 fa fb):=nH yk B8 ha hb
theorem An (ha:FE X a fa) (hb:FE X b fb):FE X (.BinOp a .Mult b pos) (f2 fA fa fb):=nH ym B9 ha hb
theorem Ao (ha:FE X a fa) (hb:FE X b fb):FE X (.BinOp a .Mod b pos) (f2 dO fa fb):=nH yn Ca ha hb
theorem xj (ha:FE X a fa) (hb:FE X b fb):FE X (.BinOp a .FloorDiv b pos) (f2 dS fa fb):=nH vy y4 ha hb
theorem Ap (hu:X.A.units + 64 < cLine) (ha:FE X a fa) (hb:FE X b fb) (hm:EN .Eq b=false:=by kernel_rfl):FT X (.Compare a [.Eq] [b] pos) (fB (f2 eqX fa fb)):=eZ (zg hu) zh ha hb hm
theorem Aq (hu:X.A.units + 64 < cLine) (ha:FE X a fa) (hb:FE X b fb) (hm:EN .NotEq b=false:=by kernel_rfl):FT X (.Compare a [.NotEq] [b] pos) (fB (f2 neX fa fb)):=eZ (Ck hu) Co ha hb hm
theorem Ar (ha:FE X a fa) (hb:FE X b fb) (hm:EN .Lt b=false:=by kernel_rfl):FT X (.Compare a [.Lt] [b] pos) (fB (f2 ltX fa fb)):=eZ Cp Cq ha hb hm
theorem As (ha:FE X a fa) (hb:FE X b fb) (hm:EN .Gt b=false:=by kernel_rfl):FT X (.Compare a [.Gt] [b] pos) (fB (f2 gtD fa fb)):=eZ BO (Cc _) ha hb hm
theorem xl (hu:X.A.units < cLine) (ha:FE X a fa) (hb:FE X b fb) (hm:EN .Eq b=false:=by kernel_rfl):FT X (.Compare a [.Eq] [b] pos) (fB (f2 Bq fa fb)):=eZ (Ci hu) Cj ha hb hm
theorem At (hu:X.A.units + 64 < cLine) (ha:FE X a fa) (hb:FE X b fb) (hm:EN .Gt b=false:=by kernel_rfl):FT X (.Compare a [.Gt] [b] pos) (fB (f2 gtT fa fb)):=eZ (C1 hu) C2 ha hb hm
theorem Au (hu:X.A.units + 64 < cLine) (ha:FE X a fa) (hb:FE X b fb) (hm:EN .In b=false:=by kernel_rfl):FT X (.Compare a [.In] [b] pos) (fB (f2 inX fa fb)):=eZ (Cw hu) Cy ha hb hm
theorem qN (hu:X.A.units + 64 < cLine) (ha:FE X a fa) (hb:FE X b fb) (hm:EN .NotIn b=false:=by kernel_rfl):FT X (.Compare a [.NotIn] [b] pos) (fB (f2 bu fa fb)):=eZ (sN hu) sO ha hb hm
theorem Av (hu:X.A.units + 64 < cLine) (ha:FE X a fa) (hb:FE X b fb) (hm:EN .Eq b=false:=by kernel_rfl):FE X (.Compare a [.Eq] [b] pos) (f2 eqX fa fb):=jL (zg hu) zh ha hb hm
theorem Aw (ha:FE X a fa) (hb:FE X b fb) (hm:EN .LtE b=false:=by kernel_rfl):FE X (.Compare a [.LtE] [b] pos) (f2 leX fa fb):=jL CI CK ha hb hm
theorem Ax (ha:FE X a fa) (hb:FE X b fb) (hm:EN .Is b=false:=by kernel_rfl):FE X (.Compare a [.Is] [b] pos) (f2 isN fa fb):=jL yp Cd ha hb hm
theorem Ay (ha:FE X a fa) (hb:FE X b fb) (hm:EN .In b=false:=by kernel_rfl):FE X (.Compare a [.In] [b] pos) (f2 inD fa fb):=jL o_in Dx ha hb hm
theorem qO (ha:FE X a fa) (hb:FE X b fb) (hm:EN .NotIn b=false:=by kernel_rfl):FE X (.Compare a [.NotIn] [b] pos) (f2 jP fa fb):=jL o_notIn pE ha hb hm
theorem Az (hm:X.mg "isinstance"=none) (hn:X.mg "int"=none) (ha:FE X a fa) (hg:X.env.kindOf (b_ "isinstance")=some .globalImplicit:=by kernel_rfl) (hg2:X.env.kindOf (b_ "int")=some .globalImplicit:=by kernel_rfl) (hs1:f_ [a,.Name (b_ "int") pt] X.env=(false,eval a X.env) :: f_ [.Name (b_ "int") pt] X.env:=by kernel_rfl) (hs2:f_ [.Name (b_ "int") pt] X.env=(false,eval (.Name (b_ "int") pt) X.env) :: f_ [] X.env:=by kernel_rfl) (hpl:(EY pos (f_ [.Name (b_ "int") pt] X.env)).any (·.1)=false:=by kernel_rfl):FE X (.Call (.Name "isinstance" p) [a,.Name (b_ "int") pt] [] pos) (f1 (iU pN) fa):=mC (T:="int") wx zF (by decide +kernel) (by kernel_rfl) hg hm hg2 hn ha hs1 hs2 hpl
theorem AA (hm:X.mg "isinstance"=none) (hn:X.mg "str"=none) (ha:FE X a fa) (hg:X.env.kindOf (b_ "isinstance")=some .globalImplicit:=by kernel_rfl) (hg2:X.env.kindOf (b_ "str")=some .globalImplicit:=by kernel_rfl) (hs1:f_ [a,.Name (b_ "str") pt] X.env=(false,eval a X.env) :: f_ [.Name (b_ "str") pt] X.env:=by kernel_rfl) (hs2:f_ [.Name (b_ "str") pt] X.env=(false,eval (.Name (b_ "str") pt) X.env) :: f_ [] X.env:=by kernel_rfl) (hpl:(EY pos (f_ [.Name (b_ "str") pt] X.env)).any (·.1)=false:=by kernel_rfl):FE X (.Call (.Name "isinstance" p) [a,.Name (b_ "str") pt] [] pos) (f1 (iU pF) fa):=mC (T:="str") v4 zc (by decide +kernel) (by kernel_rfl) hg hm hg2 hn ha hs1 hs2 hpl
theorem ue (hm:X.mg "isinstance"=none) (hn:X.mg "tuple"=none) (ha:FE X a fa) (hg:X.env.kindOf (b_ "isinstance")=some .globalImplicit:=by kernel_rfl) (hg2:X.env.kindOf (b_ "tuple")=some .globalImplicit:=by kernel_rfl) (hs1:f_ [a,.Name (b_ "tuple") pt] X.env=(false,eval a X.env) :: f_ [.Name (b_ "tuple") pt] X.env:=by kernel_rfl) (hs2:f_ [.Name (b_ "tuple") pt] X.env=(false,eval (.Name (b_ "tuple") pt) X.env) :: f_ [] X.env:=by kernel_rfl) (hpl:(EY pos (f_ [.Name (b_ "tuple") pt] X.env)).any (·.1)=false:=by kernel_rfl):FE X (.Call (.Name "isinstance" p) [a,.Name (b_ "tuple") pt] [] pos) (f1 (iU nM) fa):=mC (T:="tuple") v6 sx (by decide +kernel) (by kernel_rfl) hg hm hg2 hn ha hs1 hs2 hpl
theorem xm (hm:X.mg "isinstance"=none) (hn:X.mg "bool"=none) (ha:FE X a fa) (hg:X.env.kindOf (b_ "isinstance")=some .globalImplicit:=by kernel_rfl) (hg2:X.env.kindOf (b_ "bool")=some .globalImplicit:=by kernel_rfl) (hs1:f_ [a,.Name (b_ "bool") pt] X.env=(false,eval a X.env) :: f_ [.Name (b_ "bool") pt] X.env:=by kernel_rfl) (hs2:f_ [.Name (b_ "bool") pt] X.env=(false,eval (.Name (b_ "bool") pt) X.env) :: f_ [] X.env:=by kernel_rfl) (hpl:(EY pos (f_ [.Name (b_ "bool") pt] X.env)).any (·.1)=false:=by kernel_rfl):FE X (.Call (.Name "isinstance" p) [a,.Name (b_ "bool") pt] [] pos) (f1 (iU fm) fa):=mC (T:="bool") sv wa (by decide +kernel) (by kernel_rfl) hg hm hg2 hn ha hs1 hs2 hpl
theorem jg (ho:FE X o fo) (ha:FA X (e :: es) ga) (h:SmL X o "startswith" e es apos cpos:=by exact ⟨by kernel_rfl,by kernel_rfl,by kernel_rfl,by kernel_rfl,by kernel_rfl⟩):FE X (.Call (.Attribute o "startswith" apos) (e :: es) [] cpos) (fM (v7 Jq) fo ga):=wU PySem.F.slot_str_startswith PySem.F.type_str_startswith Cg uN ho ha h
theorem lB (ho:FE X o fo) (ha:FA X (e :: es) ga) (h:SmL X o "endswith" e es apos cpos:=by exact ⟨by kernel_rfl,by kernel_rfl,by kernel_rfl,by kernel_rfl,by kernel_rfl⟩):FE X (.Call (.Attribute o "endswith" apos) (e :: es) [] cpos) (fM (v7 L0) fo ga):=wU PySem.F.slot_str_endswith PySem.F.type_str_endswith Ch uN ho ha h
theorem uf (ho:FE X o fo) (ha:FA X (e :: es) ga) (h:SmL X o "split" e es apos cpos:=by exact ⟨by kernel_rfl,by kernel_rfl,by kernel_rfl,by kernel_rfl,by kernel_rfl⟩):FE X (.Call (.Attribute o "split" apos) (e :: es) [] cpos) (fM (mD) fo ga):=wU Ig PySem.F.type_str_split sy wb ho ha h
end
local macro_rules | `(tactic| walk_at "x")=>`(tactic| (first
 | with_reducible exact uI
 | with_reducible refine pq ?_ ?_
 | with_reducible exact BZ _ (by kernel_rfl) (by kernel_rfl!)
 | with_reducible exact B0 _ (by kernel_rfl) (by kernel_rfl!)
 | with_reducible exact yG
 | with_reducible exact yI
 | with_reducible exact B1
 | with_reducible exact yH
 | with_reducible exact CT (by with_unfolding_all assumption) (by kernel_rfl!)
 | with_reducible exact CU (by with_unfolding_all assumption) (by kernel_rfl!)
 | with_reducible refine z6 ?_ ?_
 | with_reducible refine yS ?_
 | with_reducible refine yR ?_
 | with_reducible refine tI (by with_unfolding_all assumption) (by with_unfolding_all assumption) (by kernel_rfl!) ?_
 | with_reducible refine yN ?_
 | with_reducible refine yO ?_ ?_
 | with_reducible refine B4 ?_ ?_
 | with_reducible refine yP ?_
 | with_reducible refine y6 ?_
 | with_reducible refine B5 ?_ ?_ ?_
 | with_reducible refine Ak ?_ ?_
 | with_reducible refine Al ?_ ?_
 | with_reducible refine Am ?_ ?_
 | with_reducible refine An ?_ ?_
 | with_reducible refine Ao ?_ ?_
 | with_reducible refine xj ?_ ?_
 | with_reducible refine Ap ?_ ?_ ?_
 | with_reducible refine Aq ?_ ?_ ?_
 | with_reducible refine Ar ?_ ?_
 | with_reducible refine As ?_ ?_
 | with_reducible refine xl ?_ ?_ ?_
 | with_reducible refine At ?_ ?_ ?_
 | with_reducible refine Au ?_ ?_ ?_
 | with_reducible refine qN ?_ ?_ ?_
 | with_reducible refine Av ?_ ?_ ?_
 | with_reducible refine Aw ?_ ?_
 | with_reducible refine Ax ?_ ?_
 | with_reducible refine Ay ?_ ?_
 | with_reducible refine qO ?_ ?_
 | with_reducible refine FW.ft (uH ?_ ?_)
 | with_reducible refine FW.ft (yL ?_ ?_)
 | with_reducible refine uH ?_ ?_
 | with_reducible refine yL ?_ ?_
 | with_reducible refine vM ?_
 | with_reducible refine yK ?_
 | with_reducible refine yM ?_
 | with_reducible refine yJ ?_
 | with_reducible refine wn ?_ ?_ ?_
 | with_reducible exact vY
 | with_reducible refine vZ ?_
 | with_reducible refine CV ?_ ?_ ?_
 | with_reducible exact tJ
 | with_reducible refine tK ?_
 | with_reducible intro _ _ _ _
 | with_reducible refine nW ?_ (by kernel_rfl) (glb (by kernel_rfl)) ?_ (glb (by kernel_rfl)) ?_ ?_
 | with_reducible refine tE ?_ (glb (by kernel_rfl)) ?_ ?_
 | with_reducible refine za (glb (by kernel_rfl)) ?_ ?_
 | with_reducible refine sD (glb (by kernel_rfl)) ?_ ?_
 | with_reducible refine zb (by kernel_rfl) (glb (by kernel_rfl)) ?_ ?_
 | with_reducible refine Az ?_ ?_ ?_
 | with_reducible refine AA ?_ ?_ ?_
 | with_reducible refine ue ?_ ?_ ?_
 | with_reducible refine xm ?_ ?_ ?_
 | with_reducible refine jg ?_ ?_
 | with_reducible refine lB ?_ ?_
 | with_reducible refine uf ?_ ?_
 | with_reducible refine pA (glb (by kernel_rfl)) ?_ ?_
 | with_reducible refine pB (glb (by kernel_rfl)) ?_ ?_
 | with_reducible refine yX ?_
 | with_reducible refine wK (glb (by kernel_rfl)) ?_ ?_
 | with_reducible refine FI.toG ?_
 | with_reducible exact vN
 | with_reducible refine qK ?_ ?_ ?_
 | with_reducible refine vO ?_
 | with_reducible refine tL ?_ ?_
 | with_reducible refine sf ?_ ?_
 | with_reducible refine xf ?_ ?_ ?_
 | with_reducible refine xb ?_
 | with_reducible refine xg ?_ ?_ ?_
 | with_reducible refine xh ?_ ?_ ?_
 | with_reducible refine qL (by with_unfolding_all assumption) (by with_unfolding_all assumption) (by kernel_rfl!) ?_ ?_
 | with_reducible refine qM (by with_unfolding_all assumption) (by with_unfolding_all assumption) (by with_unfolding_all assumption) (by kernel_rfl!)
 | with_reducible refine xi ?_ ?_
 | with_reducible refine C7 ?_
 | with_reducible refine yT ?_
 | with_reducible refine B6 ?_ ?_ ?_
 | with_reducible exact sh
 | with_reducible refine vP ?_
 | with_reducible refine CY ?_ ?_ ?_ (by kernel_rfl!)
 | with_reducible refine CZ ?_ ?_ ?_ (by kernel_rfl!)
 | with_reducible refine wP ?_
 | with_reducible refine zl (by kernel_rfl) ?_ ?_
 | with_reducible refine tN ?_
 | with_reducible exact zk
 | with_reducible refine wR ?_ ?_ ?_
 | with_reducible exact wu
 | with_reducible refine wv ?_
 | with_reducible refine sQ ?_ ?_
 | with_reducible refine zA ?_
 | with_reducible refine zy ?_ ?_ ?_
 | with_reducible refine CH (by kernel_rfl) ?_ ?_ ?_
 | with_reducible refine wT ?_ (jd (by kernel_rfl) (by kernel_rfl) (by kernel_rfl) (by kernel_rfl))
 | with_reducible refine tQ ?_
 | with_reducible refine wQ ?_
 | with_reducible refine tM ?_ ?_ ?_
 | with_reducible refine wS ?_ ?_ ?_
 | assumption
 | exact MA.no (by assumption) (by kernel_rfl)
 | exact Room.units (by assumption)
 | exact RoomM.units (by assumption)
 | exact Room.units0 (by assumption)
 | exact PassesOwn.never
 | exact PassesOwn.leaving) <;> walk_at "x")
local macro_rules | `(tactic| walk_at "b")=>`(tactic| (intros; (conv=>arg 2; whnf); walk_at "x"))
local macro_rules | `(tactic| walk_at "d")=>`(tactic| (intro _ _ _ _ _ _ us hl; rcases us with _ | ⟨_,_ | ⟨_,_ | ⟨_,_ | ⟨_,_ | ⟨_,_ | ⟨_,_ | ⟨_,_ | ⟨_,us⟩⟩⟩⟩⟩⟩⟩⟩ <;> first | rfl | cases hl))
def CC:xT:=[cN "all",cN "bool",cN "enumerate",cN "int",cN "isinstance",cN "len",cN "range",cN "set",cN "sorted",cN "str",cN "tuple",cS "FIGURES" "0123456789",cS "LABEL_SIGNS" "abcdefghijklmnopqrstuvwxyz0123456789-",cI "LAST_MOMENT" 9999,cI "LONGEST_LABEL" 8,cI "LONGEST_NOTE_NAME" 10,cI "LONGEST_PATH" 20,cI "LONGEST_WORTH" 12,cI "MOST_LABELS" 5,cI "MOST_NOTES" 20,cI "NOTE_ENDS" 5,cI "NOTE_EXACT" 3,cI "NOTE_HOUSE" 2,cI "NOTE_MADE" 8,cI "NOTE_NAME" 0,cS "NOTE_NAME_SIGNS" "abcdefghijklmnopqrstuvwxyzABCDEFGHIJKLMNOPQRSTUVWXYZ0123456789-_",cI "NOTE_PARTS" 10,cI "NOTE_PATH" 4,cI "NOTE_REACH" 7,cI "NOTE_SAFE" 6,cI "NOTE_USED" 9,cI "NOTE_WORTH" 1,cS "NO_WORTH_SIGNS" ";,=",cS "PATH_SIGNS" "abcdefghijklmnopqrstuvwxyz0123456789-_./"]
section
variable {P:Program} {w:w_} {K:ck} {mg:Str→Option Value} {base h:Heap} {f:Addr} (XI:K.In h) (Gn:h.Ns EA mg) (M:MA mg CC)
include XI Gn M
def T0:cT:=[]
def bW:FnS:=(bD (cV (fB (f2 Bq (ab 0) (c0 ag))) (bf (f2 fA (fC (.int 7)) (ab 1))) (fun ρ=>some (.nx ρ))) (bf (f2 gW (f2 ixD (ab 0) (f2 dO (ab 1) (fB1 fY (aa (ab 0) ag)))) (f2 fA (fC (.int 6553)) (f2 dS (ab 1) (fB1 fY (aa (ab 0) ag)))))))
def bq:List Dv→Option (Rs Dv):=bR 2 bW
def T1:cT:=("_law_cell",1,["_law_script","_law_k"],bq) :: T0
theorem ku (A:Af K "_law_cell" (top 58) f) (t:HA P w K mg base T0):HA P w K mg base T1 :=
 ay (aH XI Gn ["_law_script","_law_k"] ["_law_script","_law_k"] bW A (by walk_at "d") (by delta bW; walk_at "b")) t
def bw:FnS:=(bD (dN 3 (f2 dO (f2 gW (f2 fA (f2 dO (ae bq 2 (aa (ab 0) (aa (ab 1) ag))) (fC (.int 2147483563))) (fC (.int 69069))) (f2 fA (fC (.int 104723)) (f2 gW (ab 1) (fC (.int 1))))) (fC (.int 2147483563)))) (bD (dN 3 (f2 dO (f2 gW (f2 fA (ab 3) (ab 3)) (f2 dS (ab 3) (fC (.int 3)))) (fC (.int 2147483399)))) (bf (f2 dO (f2 dS (f2 dO (f2 gW (f2 fA (ab 3) (ab 3)) (f2 dS (ab 3) (fC (.int 7)))) (fC (.int 2147483647))) (fC (.int 11))) (ab 2)))))
def ac:List Dv→Option (Rs Dv):=bR 4 bw
def T2:cT:=("_law_drawn",2,["_law_script","_law_k","_law_many"],ac) :: T1
theorem jh (A:Af K "_law_drawn" (top 59) f) (t:HA P w K mg base T1):HA P w K mg base T2 :=
 ay (aH XI Gn ["_law_script","_law_k","_law_many","_law_cell_here"] ["_law_script","_law_k","_law_many"] bw A (by walk_at "d") (by delta bw; walk_at "b")) t
def dI:FnS:=(bD (dN 2 (c0 (aa (fC (.str "a.b")) (aa (fC (.str "b")) (aa (fC (.str "x.a.b")) (aa (fC (.str "y.x.a.b")) (aa (fC (.str "c.uk")) (aa (fC (.str "uk")) (aa (fC (.str "d.c.uk")) (aa (fC (.str "e.d.c.uk")) ag)))))))))) (bD (dN 2 (f2 gW (ab 2) (c0 (aa (fC (.str "w.ck")) (aa (fC (.str "v.w.ck")) (aa (fC (.str "ck")) (aa (fC (.str "g-1.a.b")) (aa (fC (.str "7.b")) (aa (fC (.str "p.q")) ag))))))))) (bf (f2 ixD (ab 2) (ae ac 3 (aa (ab 0) (aa (ab 1) (aa (fB1 fY (aa (ab 2) ag)) ag))))))))
def bX:List Dv→Option (Rs Dv):=bR 3 dI
def T3:cT:=("_law_name",3,["_law_script","_law_at"],bX) :: T2
theorem kw (A:Af K "_law_name" (top 60) f) (t:HA P w K mg base T2):HA P w K mg base T3 :=
 ay (aH XI Gn ["_law_script","_law_at","_law_some"] ["_law_script","_law_at"] dI A (by walk_at "d") (by delta dI; walk_at "b")) t
def dJ : FnS := (bD (dN 2 (c0 (aa (fC (.str "/")) (aa (fC (.str "/x")) (aa (fC (.str "/x/")) (aa (fC (.str "/x/y")) (aa (fC (.str "/xy")) (aa (fC (.str "/x/y/z.q")) (aa (fC (.str "//")) (aa (fC (.str "/-_.9")) (aa (fC (.str "/x/y/")) ag))))))))))) (bf (f2 ixD (ab 2) (ae ac 3 (aa (ab 0) (aa (ab 1) (aa (fB1 fY (aa (ab 2) ag)) ag)))))))
def bY:List Dv→Option (Rs Dv):=bR 3 dJ
def T4:cT:=("_law_path",3,["_law_script","_law_at"],bY) :: T3
theorem kx (A:Af K "_law_path" (top 61) f) (t:HA P w K mg base T3):HA P w K mg base T4 :=
 ay (aH XI Gn ["_law_script","_law_at","_law_some"] ["_law_script","_law_at"] dJ A (by walk_at "d") (by delta dJ; walk_at "b")) t
def aG:dC:=(cR (c7 6 (f2 bg (f2 bg (ab 1) (fC (.int 1))) (f2 fA (fC (.int 14)) (ab 5)))) (cR (c7 4 (f2 bg (ab 4) (ae ac 3 (aa (ab 0) (aa (ab 6) (aa (fC (.int 4)) ag)))))) (cR (c7 7 (f2 ixD (c0 (aa (fC (.str "n")) (aa (fC (.str "m-1")) (aa (fC (.str "safe-a")) (aa (fC (.str "N_2")) ag))))) (ae ac 3 (aa (ab 0) (aa (f2 bg (ab 6) (fC (.int 1))) (aa (fC (.int 4)) ag)))))) (cR (c7 8 (f2 ixD (c0 (aa (fC (.str "5")) (aa (fC (.str "")) (aa (fC (.str "a!b~")) ag)))) (ae ac 3 (aa (ab 0) (aa (f2 bg (ab 6) (fC (.int 2))) (aa (fC (.int 3)) ag)))))) (cR (c7 9 (f2 ixD (c0 (aa (fC .non) (aa (ae ac 3 (aa (ab 0) (aa (f2 bg (ab 6) (fC (.int 7))) (aa (fC (.int 60)) ag)))) ag))) (ae ac 3 (aa (ab 0) (aa (f2 bg (ab 6) (fC (.int 6))) (aa (fC (.int 2)) ag)))))) (cR (c7 10 (f2 eqX (ae ac 3 (aa (ab 0) (aa (f2 bg (ab 6) (fC (.int 4))) (aa (fC (.int 2)) ag)))) (fC (.int 0)))) (cR (c7 11 (cf (aa (ab 7) (aa (ab 8) (aa (ae bX 2 (aa (ab 0) (aa (f2 bg (ab 6) (fC (.int 3))) ag))) (aa (ab 10) (aa (ae bY 2 (aa (ab 0) (aa (f2 bg (ab 6) (fC (.int 5))) ag))) ag))))))) (cR (c7 12 (f2 ixD (c0 (aa (fC (.str "any")) (aa (fC (.str "any")) (aa (fC (.str "near")) ag)))) (ae ac 3 (aa (ab 0) (aa (f2 bg (ab 6) (fC (.int 9))) (aa (fC (.int 3)) ag)))))) (cR (c7 13 (f2 eqX (ae ac 3 (aa (ab 0) (aa (f2 bg (ab 6) (fC (.int 8))) (aa (fC (.int 2)) ag)))) (fC (.int 0)))) (cR (c7 14 (f2 bg (ab 4) (ae ac 3 (aa (ab 0) (aa (f2 bg (ab 6) (fC (.int 10))) (aa (fC (.int 5)) ag)))))) (cR (c7 15 (f2 bg (ab 11) (cf (aa (ab 9) (aa (ab 13) (aa (ab 12) (aa (ab 4) (aa (ab 14) ag)))))))) (sP 3 (fB (f2 eqX (ba [("_law_note",15)] (bP (ab 3)) (some (fB (f2 eqX (cf (aa (f2 ixD (ab 0) (fC (.int 0))) (aa (f2 ixD (ab 0) (fC (.int 2))) (aa (f2 ixD (ab 0) (fC (.int 4))) ag)))) (cf (aa (f2 ixD (ab 1) (fC (.int 0))) (aa (f2 ixD (ab 1) (fC (.int 2))) (aa (f2 ixD (ab 1) (fC (.int 4))) ag))))))) (ab 0)) (c0 ag))) (oF (ab 15)) rQ))))))))))))
def eQ:FnS:=(uR 3 ag (cR (c7 4 (fC (.int 0))) (cR (pM 5 [5,6,7,8,9,10,11,12,13,14,15] (fun ρ=>bnd ((aa (ae ac 3 (aa (ab 0) (aa (ab 1) (aa (f2 bg (ab 2) (fC (.int 1))) ag)))) ag) ρ) pv) aG) (uQ 3 (fB1 fq (aa (ab 3) ag))))))
def aL:List Dv→Option (Rs Dv):=bR 16 eQ
def T5:cT:=("_law_jar",4,["_law_script","_law_at","_law_many"],aL) :: T4
theorem lC (A:Af K "_law_jar" (top 62) f) (t:HA P w K mg base T4):HA P w K mg base T5 :=
 ay (aH XI Gn ["_law_script","_law_at","_law_many","_law_found","_law_now","_law_k","_law_here","_law_name_here","_law_worth","_law_ends","_law_exact","_law_head","_law_reach","_law_safe","_law_late","_law_note"] ["_law_script","_law_at","_law_many"] eQ A (by walk_at "d") (by delta eQ aG; walk_at "b")) t
def du:FnS:=(bf (cf (aa (f2 ixD (ab 0) (fC (.int 0))) (aa (f2 ixD (ab 0) (fC (.int 2))) (aa (f2 ixD (ab 0) (fC (.int 4))) ag)))))
def au:List Dv→Option (Rs Dv):=bR 1 du
def T6:cT:=("_law_key",1,["_law_note"],au) :: T5
theorem lD (A:Af K "_law_key" (top 63) f) (t:HA P w K mg base T5):HA P w K mg base T6 :=
 ay (aH XI Gn ["_law_note"] ["_law_note"] du A (by walk_at "d") (by delta du; walk_at "b")) t
def aC:dC:=(cR (c7 6 (ae ac 3 (aa (ab 0) (aa (f2 bg (ab 1) (ab 4)) (aa (fC (.int 4)) ag))))) (cR (oIf (fB (f2 eqX (ab 6) (fC (.int 1)))) (c7 5 (f2 bg (iW (ab 5) lg (fD (fC (.int 9)))) (cf (aa (f2 bg (f2 ixD (ab 5) (fC (.int 9))) (fC (.int 1))) ag)))) rQ) (oIf (fB (f2 gtD (ab 6) (fC (.int 0)))) (oF (ab 5)) rQ)))
def az:dC:=(sP 3 (fB (f2 eqX (ba [("_law_note",5)] (bP (ab 3)) (some (fB (f2 eqX (ae au 1 (aa (ab 0) ag)) (ae au 1 (aa (ab 1) ag))))) (ab 0)) (c0 ag))) (oF (f2 bg (f2 bg (f2 bg (iW (ab 5) lg (fD (fC (.int 5)))) (cf (aa (fC .non) ag))) (iW (ab 5) (fD (fC (.int 6))) (fD (fC (.int 8))))) (cf (aa (ab 7) (aa (f2 bg (ab 7) (fC (.int 2))) ag))))) rQ)
def bZ:FnS:=(uR 3 ag (cR (nR 4 5 [4,6] (fun ρ=>bnd ((aa (ab 2) ag) ρ) nY) aC) (cR (lA 3 7 (fIf (fB (f2 neX (ab 3) (c0 ag))) (f2 ixD (f2 ixD (ab 3) (f1 vV (fC (.int 1)))) (fC (.int 8))) (fC (.int 0)))) (cR (pM 5 [5] (bP (ae aL 3 (aa (ab 0) (aa (f2 bg (ab 1) (fC (.int 40))) (aa (fC (.int 3)) ag))))) az) (uQ 3 (fB1 fq (aa (ab 3) ag)))))))
def b3:List Dv→Option (Rs Dv):=bR 8 bZ
def T7:cT:=("_law_like",5,["_law_script","_law_at","_law_jar_here"],b3) :: T6
theorem kz (A:Af K "_law_like" (top 64) f) (t:HA P w K mg base T6):HA P w K mg base T7 :=
 ay (aH XI Gn ["_law_script","_law_at","_law_jar_here","_law_found","_law_k","_law_note","_law_way","_law_last"] ["_law_script","_law_at","_law_jar_here"] bZ A (by walk_at "d") (by delta bZ aC az; walk_at "b")) t
def ug:FnS:=(bf (cf (aa (f2 ixD (ab 0) (fC (.int 0))) (aa (f2 ixD (ab 0) (fC (.int 2))) (aa (f2 ixD (ab 0) (fC (.int 4))) ag)))))
def bK:List Dv→Option (Rs Dv):=bR 1 ug
def T8:cT:=("key",1,["note"],bK) :: T7
theorem AB (A:Af K "key" (top 43) f) (t:HA P w K mg base T7):HA P w K mg base T8 :=
 ay (aH XI Gn ["note"] ["note"] ug A (by walk_at "d") (by delta ug; walk_at "b")) t
def aM:FnS:=(bD (dN 1 (bI 1 [] (bP (ab 0)) (gN 0) none (ae bK 1 (aa (ab 0) ag)))) (bf (f2 eqX (fB1 gk (aa (ab 1) ag)) (fB1 fY (aa (ab 1) ag)))))
def aZ:List Dv→Option (Rs Dv):=bR 2 aM
def T9:cT:=("has_no_key_twice",2,["notes"],aZ) :: T8
theorem dL (A:Af K "has_no_key_twice" (top 48) f) (t:HA P w K mg base T8):HA P w K mg base T9 :=
 ay (aH XI Gn ["notes","keys"] ["notes"] aM A (by walk_at "d") (by delta aM; walk_at "b")) t
def da:FnS:=(bf (fB1 nK (aa (ba [("notes",0)] (fun ρ=>bnd ((aa (fC (.int 1)) (aa (fB1 fY (aa (ab 0) ag)) ag)) ρ) sj) none (f2 leX (f2 ixD (f2 ixD (ab 1) (f2 y3 (ab 0) (fC (.int 1)))) (fC (.int 8))) (f2 ixD (f2 ixD (ab 1) (ab 0)) (fC (.int 8))))) ag)))
def cj:List Dv→Option (Rs Dv):=bR 1 da
def T10:cT:=("is_by_made",1,["notes"],cj) :: T9
theorem ji (A:Af K "is_by_made" (top 47) f) (t:HA P w K mg base T9):HA P w K mg base T10 :=
 ay (aH XI Gn ["notes"] ["notes"] da A (by walk_at "d") (by delta da; walk_at "b")) t
def aR:FnS:=(bD (cV (bOr (fW (fB (f1 (iU pN) (ab 0)))) (fB (f1 (iU fm) (ab 0)))) (bf (fC (.bl false))) (fun ρ=>some (.nx ρ))) (bf (kT (f2 leX (ab 1) (ab 0)) (f2 leX (ab 0) (ab 2)))))
def aS:List Dv→Option (Rs Dv):=bR 3 aR
def T11:cT:=("is_whole_number",1,["thing","least","most"],aS) :: T10
theorem el (A:Af K "is_whole_number" (top 5) f) (t:HA P w K mg base T10):HA P w K mg base T11 :=
 ay (aH XI Gn ["thing","least","most"] ["thing","least","most"] aR A (by walk_at "d") (by delta aR; walk_at "b")) t
def cL:FnS:=(bf (ae aS 3 (aa (ab 0) (aa (fC (.int 0)) (aa (fC (.int 9999)) ag)))))
def br:List Dv→Option (Rs Dv):=bR 1 cL
def T12:cT:=("is_moment",2,["thing"],br) :: T11
theorem kA (A:Af K "is_moment" (top 20) f) (t:HA P w K mg base T11):HA P w K mg base T12 :=
 ay (aH XI Gn ["thing"] ["thing"] cL A (by walk_at "d") (by delta cL; walk_at "b")) t
def aI:FnS:=(bf (vOr (f2 isN (ab 0) (fC .non)) (ae br 1 (aa (ab 0) ag))))
def aB:List Dv→Option (Rs Dv):=bR 1 aI
def T13:cT:=("is_moment_or_none",3,["thing"],aB) :: T12
theorem dw (A:Af K "is_moment_or_none" (top 21) f) (t:HA P w K mg base T12):HA P w K mg base T13 :=
 ay (aH XI Gn ["thing"] ["thing"] aI A (by walk_at "d") (by delta aI; walk_at "b")) t
def db:FnS:=(bD (cV (fW (fB (f1 (iU pF) (ab 0)))) (bf (fC (.bl false))) (fun ρ=>some (.nx ρ))) (bD (cV (bOr (fB (f2 ltX (fB1 fY (aa (ab 0) ag)) (ab 2))) (fB (f2 gtD (fB1 fY (aa (ab 0) ag)) (ab 3)))) (bf (fC (.bl false))) (fun ρ=>some (.nx ρ))) (bf (fB1 nK (aa (ba [("signs",1)] (bP (ab 0)) none (f2 inD (ab 0) (ab 1))) ag)))))
def bL:List Dv→Option (Rs Dv):=bR 4 db
def T14:cT:=("is_text_of",1,["thing","signs","least","most"],bL) :: T13
theorem jj (A:Af K "is_text_of" (top 4) f) (t:HA P w K mg base T13):HA P w K mg base T14 :=
 ay (aH XI Gn ["thing","signs","least","most"] ["thing","signs","least","most"] db A (by walk_at "d") (by delta db; walk_at "b")) t
def eR:FnS:=(bD (cV (fW (fB (ae bL 4 (aa (ab 0) (aa (fC (.str "abcdefghijklmnopqrstuvwxyz0123456789-")) (aa (fC (.int 1)) (aa (fC (.int 8)) ag))))))) (bf (fC (.bl false))) (fun ρ=>some (.nx ρ))) (bf (kT (Bp (fM (v7 Jq) (ab 0) (aa (fC (.str "-")) ag))) (Bp (fM (v7 L0) (ab 0) (aa (fC (.str "-")) ag))))))
def iI:List Dv→Option (Rs Dv):=bR 1 eR
def T15:cT:=("is_label",2,["thing"],iI) :: T14
theorem lE (A:Af K "is_label" (top 12) f) (t:HA P w K mg base T14):HA P w K mg base T15 :=
 ay (aH XI Gn ["thing"] ["thing"] eR A (by walk_at "d") (by delta eR; walk_at "b")) t
def gM:FnS:=(bD (cV (fW (fB (f1 (iU pF) (ab 0)))) (bf (fC (.bl false))) (fun ρ=>some (.nx ρ))) (bD (dN 1 (fM (mD) (ab 0) (aa (fC (.str ".")) ag))) (bD (cV (bOr (fB (f2 gtD (fB1 fY (aa (ab 1) ag)) (fC (.int 5)))) (fW (fB (fB1 nK (aa (ba [] (bP (ab 1)) none (ae iI 1 (aa (ab 0) ag))) ag))))) (bf (fC (.bl false))) (fun ρ=>some (.nx ρ))) (bf (Bp (ae bL 4 (aa (f2 ixD (ab 1) (f1 vV (fC (.int 1)))) (aa (fC (.str "0123456789")) (aa (fC (.int 1)) (aa (fC (.int 8)) ag))))))))))
def dc:List Dv→Option (Rs Dv):=bR 2 gM
def T16:cT:=("is_name",3,["thing"],dc) :: T15
theorem oj (A:Af K "is_name" (top 13) f) (t:HA P w K mg base T15):HA P w K mg base T16 :=
 ay (aH XI Gn ["thing","parts"] ["thing"] gM A (by walk_at "d") (by delta gM; walk_at "b")) t
def cu:FnS:=(bf (ae bL 4 (aa (ab 0) (aa (fC (.str "abcdefghijklmnopqrstuvwxyzABCDEFGHIJKLMNOPQRSTUVWXYZ0123456789-_")) (aa (fC (.int 1)) (aa (fC (.int 10)) ag))))))
def bj:List Dv→Option (Rs Dv):=bR 1 cu
def T17:cT:=("is_note_name",2,["thing"],bj) :: T16
theorem gO (A:Af K "is_note_name" (top 27) f) (t:HA P w K mg base T16):HA P w K mg base T17 :=
 ay (aH XI Gn ["thing"] ["thing"] cu A (by walk_at "d") (by delta cu; walk_at "b")) t
def gQ:FnS:=(bf (kT (ae bL 4 (aa (ab 0) (aa (fC (.str "abcdefghijklmnopqrstuvwxyz0123456789-_./")) (aa (fC (.int 1)) (aa (fC (.int 20)) ag))))) (fM (v7 Jq) (ab 0) (aa (fC (.str "/")) ag))))
def df:List Dv→Option (Rs Dv):=bR 1 gQ
def T18:cT:=("is_path",2,["thing"],df) :: T17
theorem om (A:Af K "is_path" (top 17) f) (t:HA P w K mg base T17):HA P w K mg base T18 :=
 ay (aH XI Gn ["thing"] ["thing"] gQ A (by walk_at "d") (by delta gQ; walk_at "b")) t
def eS:FnS:=(bf (vOr (f2 eqX (ab 0) (fC (.str "any"))) (f2 eqX (ab 0) (fC (.str "near")))))
def eT:List Dv→Option (Rs Dv):=bR 1 eS
def T19:cT:=("is_reach",1,["thing"],eT) :: T18
theorem lF (A:Af K "is_reach" (top 29) f) (t:HA P w K mg base T18):HA P w K mg base T19 :=
 ay (aH XI Gn ["thing"] ["thing"] eS A (by walk_at "d") (by delta eS; walk_at "b")) t
def cM:FnS:=(bf (kT (f1 (iU nM) (ab 0)) (f2 eqX (fB1 fY (aa (ab 0) ag)) (ab 1))))
def cO:List Dv→Option (Rs Dv):=bR 2 cM
def T20:cT:=("is_tuple_of",1,["thing","parts"],cO) :: T19
theorem hJ (A:Af K "is_tuple_of" (top 6) f) (t:HA P w K mg base T19):HA P w K mg base T20 :=
 ay (aH XI Gn ["thing","parts"] ["thing","parts"] cM A (by walk_at "d") (by delta cM; walk_at "b")) t
def eU:FnS:=(bD (cV (bOr (fW (fB (f1 (iU pF) (ab 0)))) (fB (f2 gtD (fB1 fY (aa (ab 0) ag)) (fC (.int 12))))) (bf (fC (.bl false))) (fun ρ=>some (.nx ρ))) (bf (fB1 nK (aa (ba [] (bP (ab 0)) none (kT (f2 leX (fC (.str "!")) (ab 0)) (kT (f2 leX (ab 0) (fC (.str "~"))) (f2 jP (ab 0) (fC (.str ";,=")))))) ag))))
def cz:List Dv→Option (Rs Dv):=bR 1 eU
def T21:cT:=("is_worth",1,["thing"],cz) :: T20
theorem lG (A:Af K "is_worth" (top 28) f) (t:HA P w K mg base T20):HA P w K mg base T21 :=
 ay (aH XI Gn ["thing"] ["thing"] eU A (by walk_at "d") (by delta eU; walk_at "b")) t
def em:FnS:=(bD (cV (fW (fB (ae cO 2 (aa (ab 0) (aa (fC (.int 10)) ag))))) (bf (fC (.bl false))) (fun ρ=>some (.nx ρ))) (bD (cV (bOr (fW (fB (ae br 1 (aa (f2 ixD (ab 0) (fC (.int 8))) ag)))) (fW (fB (ae br 1 (aa (f2 ixD (ab 0) (fC (.int 9))) ag))))) (bf (fC (.bl false))) (fun ρ=>some (.nx ρ))) (bf (fB1 nK (aa (c0 (aa (ae bj 1 (aa (f2 ixD (ab 0) (fC (.int 0))) ag)) (aa (ae cz 1 (aa (f2 ixD (ab 0) (fC (.int 1))) ag)) (aa (ae dc 1 (aa (f2 ixD (ab 0) (fC (.int 2))) ag)) (aa (f1 (iU fm) (f2 ixD (ab 0) (fC (.int 3)))) (aa (ae df 1 (aa (f2 ixD (ab 0) (fC (.int 4))) ag)) (aa (ae aB 1 (aa (f2 ixD (ab 0) (fC (.int 5))) ag)) (aa (f1 (iU fm) (f2 ixD (ab 0) (fC (.int 6)))) (aa (ae eT 1 (aa (f2 ixD (ab 0) (fC (.int 7))) ag)) (aa (f2 leX (f2 ixD (ab 0) (fC (.int 8))) (f2 ixD (ab 0) (fC (.int 9)))) ag)))))))))) ag)))))
def b5:List Dv→Option (Rs Dv):=bR 1 em
def T22:cT:=("is_note",4,["thing"],b5) :: T21
theorem oo (A:Af K "is_note" (top 42) f) (t:HA P w K mg base T21):HA P w K mg base T22 :=
 ay (aH XI Gn ["thing"] ["thing"] em A (by walk_at "d") (by delta em; walk_at "b")) t
def et:FnS:=(bD (cV (bOr (fW (fB (f1 (iU nM) (ab 0)))) (fB (f2 gtD (fB1 fY (aa (ab 0) ag)) (fC (.int 20))))) (bf (fC (.bl false))) (fun ρ=>some (.nx ρ))) (bD (cV (fW (fB (fB1 nK (aa (ba [] (bP (ab 0)) none (ae b5 1 (aa (ab 0) ag))) ag)))) (bf (fC (.bl false))) (fun ρ=>some (.nx ρ))) (bf (kT (ae cj 1 (aa (ab 0) ag)) (ae aZ 1 (aa (ab 0) ag))))))
def cP:List Dv→Option (Rs Dv):=bR 1 et
def T23:cT:=("is_jar",5,["thing"],cP) :: T22
theorem qP (A:Af K "is_jar" (top 46) f) (t:HA P w K mg base T22):HA P w K mg base T23 :=
 ay (aH XI Gn ["thing"] ["thing"] et A (by walk_at "d") (by delta et; walk_at "b")) t
def dv:FnS:=(cV (fW (fB (ae cP 1 (aa (ab 0) ag)))) jM (fun ρ=>some (.nx ρ)))
def aT:List Dv→Option (Rs Dv):=bR 1 dv
def T24:cT:=("need_jar",6,["thing"],aT) :: T23
theorem lH (A:Af K "need_jar" (top 49) f) (t:HA P w K mg base T23):HA P w K mg base T24 :=
 ay (aH XI Gn ["thing"] ["thing"] dv A (by walk_at "d") (by delta dv; walk_at "b")) t
def dg:FnS:=(bD (gZ (ae aT 1 (aa (ab 0) ag))) (bD (gZ (ae aT 1 (aa (ab 1) ag))) (bD (dN 2 (ba [] (bP (ab 0)) none (ae bK 1 (aa (ab 0) ag)))) (bD (dN 3 (ba [] (bP (ab 1)) none (ae bK 1 (aa (ab 0) ag)))) (bD (dN 4 (fB1 cX (aa (ba [("others",3)] (bP (ab 2)) (some (fB (f2 bu (ab 0) (ab 1)))) (ab 0)) ag))) (bD (dN 5 (fB1 cX (aa (ba [("ones",2)] (bP (ab 3)) (some (fB (f2 bu (ab 0) (ab 1)))) (ab 0)) ag))) (bD (dN 6 (fB1 cX (aa (ba [("other",1),("others",3)] (bP (ab 0)) (some (oD (fB (f2 inX (ae bK 1 (aa (ab 0) ag)) (ab 2))) (fB (f2 bu (ab 0) (ab 1))))) (ae bK 1 (aa (ab 0) ag))) ag))) (bf (cf (aa (ab 4) (aa (ab 5) (aa (ab 6) ag))))))))))))
def aA:List Dv→Option (Rs Dv):=bR 7 dg
def T25:cT:=("changed",7,["one","other"],aA) :: T24
theorem oq (A:Af K "changed" (top 52) f) (t:HA P w K mg base T24):HA P w K mg base T25 :=
 ay (aH XI Gn ["one","other","ones","others","gone","new","unlike"] ["one","other"] dg A (by walk_at "d") (by delta dg; walk_at "b")) t
def cQ:FnS:=(bf (cf (aa (f2 ixD (ab 0) (fC (.int 9))) (aa (f2 ixD (ab 0) (fC (.int 8))) ag))))
def aW:List Dv→Option (Rs Dv):=bR 1 cQ
def T26:cT:=("when_last",1,["note"],aW) :: T25
theorem kB (A:Af K "when_last" (top 56) f) (t:HA P w K mg base T25):HA P w K mg base T26 :=
 ay (aH XI Gn ["note"] ["note"] cQ A (by walk_at "d") (by delta cQ; walk_at "b")) t
def cA:FnS:=(bD (cV (fB (f2 gtT (ae aW 1 (aa (ab 1) ag)) (ae aW 1 (aa (ab 0) ag)))) (bf (ab 1)) (fun ρ=>some (.nx ρ))) (bf (ab 0)))
def cB:List Dv→Option (Rs Dv):=bR 2 cA
def T27:cT:=("later_of",2,["mine","its"],cB) :: T26
theorem lI (A:Af K "later_of" (top 55) f) (t:HA P w K mg base T26):HA P w K mg base T27 :=
 ay (aH XI Gn ["mine","its"] ["mine","its"] cA A (by walk_at "d") (by delta cA; walk_at "b")) t
def ax:FnS:=(cV (fB (f2 gtD (fB1 fY (aa (ab 0) ag)) (fC (.int 20)))) jM (fun ρ=>some (.nx ρ)))
def ar:List Dv→Option (Rs Dv):=bR 1 ax
def T28:cT:=("need_no_more_than_a_jar_has",1,["notes"],ar) :: T27
theorem bM (A:Af K "need_no_more_than_a_jar_has" (top 50) f) (t:HA P w K mg base T27):HA P w K mg base T28 :=
 ay (aH XI Gn ["notes"] ["notes"] ax A (by walk_at "d") (by delta ax; walk_at "b")) t
def cC:FnS:=(bf (cf (aa (f2 ixD (ab 0) (fC (.int 8))) (aa (ae bK 1 (aa (ab 0) ag)) ag))))
def bz:List Dv→Option (Rs Dv):=bR 1 cC
def T29:cT:=("place_of",2,["note"],bz) :: T28
theorem lK (A:Af K "place_of" (top 54) f) (t:HA P w K mg base T28):HA P w K mg base T29 :=
 ay (aH XI Gn ["note"] ["note"] cC A (by walk_at "d") (by delta cC; walk_at "b")) t
def bA:FnD:=(w9 (ae bK 1 (aa (ab 3) ag)) (vE (ab 3)))
def bB:FnD:=(w9 (ae bK 1 (aa (ab 3) ag)) (iG cB (w8 (ae bK 1 (aa (ab 3) ag)) (ab 3)) (ab 3)))
def ez:FnS:=(bD (gZ (ae aT 1 (aa (ab 0) ag))) (bD (gZ (ae aT 1 (aa (ab 1) ag))) (qF 2 (xa 3 (ab 0) bA) (xa 3 (ab 1) bB) (Ai 4 (iH bz) (bD (gZ (ae ar 1 (aa (ab 4) ag))) (bf (fB1 fq (aa (ab 4) ag))))))))
def aD:List Dv→Option (Rs Dv):=bR 5 ez
def T30:cT:=("merged",7,["one","other"],aD) :: T29
theorem qQ (A:Af K "merged" (top 53) f) (t:HA P w K mg base T29):HA P w K mg base T30 :=
 ay (aH XI Gn ["one","other","chosen","note","notes"] ["one","other"] ez A (by walk_at "d") (by delta ez bA bB; walk_at "b")) t
def bN:FnS:=(bD (cV (bOr (fB (f2 neX (ae aD 2 (aa (ab 2) (aa (ab 1) ag))) (ab 2))) (bOr (fB (f2 neX (ae aD 2 (aa (ab 2) (aa (ab 0) ag))) (ab 2))) (fB (f2 neX (ae aD 2 (aa (ab 2) (aa (cf ag) ag))) (ab 2))))) (bf (fC (.bl false))) (fun ρ=>some (.nx ρ))) (bf (f2 eqX (ba [("_law_others",3)] (bP (f2 ixD (ae aA 2 (aa (ab 0) (aa (ab 2) ag))) (fC (.int 2)))) (some (fB (f2 bu (ab 0) (ab 1)))) (ab 0)) (c0 ag))))
def dh:List Dv→Option (Rs Dv):=bR 4 bN
def T31:cT:=("_law_stays",8,["_law_jar_here","_law_other","_law_whole","_law_others"],dh) :: T30
theorem jm (A:Af K "_law_stays" (top 65) f) (t:HA P w K mg base T30):HA P w K mg base T31 :=
 ay (aH XI Gn ["_law_jar_here","_law_other","_law_whole","_law_others"] ["_law_jar_here","_law_other","_law_whole","_law_others"] bN A (by walk_at "d") (by delta bN; walk_at "b")) t
def lL:FnE:=(ae aL 3 (aa (ab 0) (aa (fC (.int 20)) (aa (fC (.int 6)) ag))))
def lM:FnB:=(fB (f2 neX (ae aA 2 (aa (ab 1) (aa (ab 1) ag))) (cf (aa (c0 ag) (aa (c0 ag) (aa (c0 ag) ag))))))
def lN:FnB:=(fB (f2 neX (fB1 cX (aa (ba [] (bP (ae aD 2 (aa (ab 1) (aa (ab 1) ag)))) none (ae au 1 (aa (ab 0) ag))) ag)) (fB1 cX (aa (ba [] (bP (ab 1)) none (ae au 1 (aa (ab 0) ag))) ag))))
def lP:FnE:=(ae aA 2 (aa (ab 1) (aa (ab 2) ag)))
def lQ:FnB:=(fB (f2 neX (ae aA 2 (aa (ab 2) (aa (ab 1) ag))) (cf (aa (ab 4) (aa (ab 3) (aa (ab 5) ag))))))
def lR:FnE:=(bI 1 [] (bP (ab 1)) (gN 0) none (ae au 1 (aa (ab 0) ag)))
def lS:FnE:=(ba [] (bP (ab 2)) none (ae au 1 (aa (ab 0) ag)))
def lT:FnB:=(fB (f2 neX (fB1 cX (aa (f2 bg (ab 3) (ba [("_law_yours",7)] (bP (ab 6)) (some (fB (f2 inX (ab 0) (ab 1)))) (ab 0))) ag)) (fB1 cX (aa (ab 6) ag))))
def lU:FnE:=(ae aD 2 (aa (ab 1) (aa (ab 2) ag)))
def lV:FnB:=(fW (fB (ae cP 1 (aa (ab 8) ag))))
def lX:FnB:=(fB (f2 neX (fB1 cX (aa (ba [] (bP (ab 8)) none (ae au 1 (aa (ab 0) ag))) ag)) (fB1 cX (aa (f2 bg (ab 6) (ab 4)) ag))))
def lY:FnB:=(fB (f2 neX (ba [("_law_jar_here",1),("_law_other",2)] (bP (ab 8)) (some (oD (fB (f2 bu (ab 0) (ab 1))) (fB (f2 bu (ab 0) (ab 2))))) (ab 0)) (c0 ag)))
def jn:FnB:=(bOr (fB (f2 neX (f2 ixD (ae aA 2 (aa (ab 1) (aa (ab 8) ag))) (fC (.int 0))) (c0 ag))) (fB (f2 neX (f2 ixD (ae aA 2 (aa (ab 1) (aa (ab 8) ag))) (fC (.int 1))) (ab 4))))
def jo:FnB:=(bOr (fB (f2 neX (f2 ixD (ae aA 2 (aa (ab 2) (aa (ab 8) ag))) (fC (.int 1))) (ab 3))) (fW (fB (ae dh 4 (aa (ab 1) (aa (ab 2) (aa (ab 8) (aa (ab 5) ag))))))))
def jp:FnB:=(oD (fB (f2 eqX (ab 5) (c0 ag))) (fB (f2 neX (ae aD 2 (aa (ab 2) (aa (ab 1) ag))) (ab 8))))
def lZ:FnE:=(bI 1 [] (bP (ab 8)) (gN 0) none (f2 ixD (ab 0) (fC (.int 8))))
def jq:FnB:=(fB (f2 neX (ab 9) (fB1 cX (aa (ab 9) ag))))
def gR:FnS:=(bD (Br [3,4,5] lP) (bD (cV lQ (bf (fC (.bl false))) (fun ρ=>some (.nx ρ))) (bD (dN 6 lR) (bD (dN 7 lS) (bD (cV lT (bf (fC (.bl false))) (fun ρ=>some (.nx ρ))) (bD (dN 8 lU) (bD (cV lV (bf (fC (.bl false))) (fun ρ=>some (.nx ρ))) (bD (cV lX (bf (fC (.bl false))) (fun ρ=>some (.nx ρ))) (bD (cV lY (bf (fC (.bl false))) (fun ρ=>some (.nx ρ))) (bD (cV jn (bf (fC (.bl false))) (fun ρ=>some (.nx ρ))) (bD (cV jo (bf (fC (.bl false))) (fun ρ=>some (.nx ρ))) (bD (cV jp (bf (fC (.bl false))) (fun ρ=>some (.nx ρ))) (bD (dN 9 lZ) (cV jq (bf (fC (.bl false))) (fun ρ=>some (.nx ρ))))))))))))))))
def l0:FnE:=(kT (f2 eqX (ae aD 2 (aa (cf ag) (aa (cf ag) ag))) (cf ag)) (f2 eqX (f2 ixD (ae aA 2 (aa (cf ag) (aa (ab 1) ag))) (fC (.int 1))) (fB1 cX (aa (ba [] (bP (ab 1)) none (ae au 1 (aa (ab 0) ag))) ag))))
def qR:FnS:=(bD (dN 1 lL) (bD (cV lM (bf (fC (.bl false))) (fun ρ=>some (.nx ρ))) (bD (cV lN (bf (fC (.bl false))) (fun ρ=>some (.nx ρ))) (bD (vR 2 [2,3,4,5,6,7,8,9] (bP (cf (aa (ae b3 3 (aa (ab 0) (aa (fC (.int 120)) (aa (ab 1) ag)))) (aa (ae aL 3 (aa (ab 0) (aa (fC (.int 220)) (aa (fC (.int 5)) ag)))) ag)))) gR) (bf l0)))))
def qS:List Dv→Option (Rs Dv):=bR 10 qR
theorem AC {fd:FL} (A:Fun K "law" "law" (top 66) f fd) (t:HA P w K mg base T31):FnOk P w K mg base CX0 9 f fd ["_law_script"] (spF K qS 1) :=
 uJ ["_law_script","_law_jar_here","_law_other","_law_gone","_law_new","_law_others","_law_mine","_law_yours","_law_whole","_law_moments"] ["_law_script"] qR (by kernel_rfl) (by kernel_rfl) A (DH (by kernel_rfl)) (by delta qR lL lM lN lP lQ lR lS lT lU lV lX lY jn jo jp lZ jq gR l0; walk_at "b")
end
theorem af {K:ck} {x:Str} {st:Stmt} (f:Addr) (m:String) (t c:Nat) (a:nsM K x=some (some (.ref f)):=by kernel_rfl) (l:K.lookup f=some ⟨EZ "function",none,.func (G_ x x (eI st) (cr st) (aJ st) .none .none .none (kS m t) none (kR c) .none),#[]⟩:=by kernel_rfl) (cc:Jn K (kR c) x=true:=by kernel_rfl) (k:F0 K (.ref f)=true:=by kernel_rfl):Af K x st f:=⟨a,⟨_,yD l cc k⟩,k⟩
theorem all_mk {l:KN} {w:w_} {K:ck} {h:Heap} {mg:Str→Option Value} {fa:Addr} (X:K.In h) (G:h.Ns EA mg) (hfa:mg "law"=some (.ref fa))
 {f1 f2 f3 f4 f5 f6 f7 f8 f9 f10 f11 f12 f13 f14 f15 f16 f17 f18 f19 f20 f21 f22 f23 f24 f25 f26 f27 f28 f29 f30 f31 fl:Addr}
 (A1:Af K "_law_cell" (top 58) f1)
 (A2:Af K "_law_drawn" (top 59) f2)
 (A3:Af K "_law_name" (top 60) f3)
 (A4:Af K "_law_path" (top 61) f4)
 (A5:Af K "_law_jar" (top 62) f5)
 (A6:Af K "_law_key" (top 63) f6)
 (A7:Af K "_law_like" (top 64) f7)
 (A8:Af K "key" (top 43) f8)
 (A9:Af K "has_no_key_twice" (top 48) f9)
 (A10:Af K "is_by_made" (top 47) f10)
 (A11:Af K "is_whole_number" (top 5) f11)
 (A12:Af K "is_moment" (top 20) f12)
 (A13:Af K "is_moment_or_none" (top 21) f13)
 (A14:Af K "is_text_of" (top 4) f14)
 (A15:Af K "is_label" (top 12) f15)
 (A16:Af K "is_name" (top 13) f16)
 (A17:Af K "is_note_name" (top 27) f17)
 (A18:Af K "is_path" (top 17) f18)
 (A19:Af K "is_reach" (top 29) f19)
 (A20:Af K "is_tuple_of" (top 6) f20)
 (A21:Af K "is_worth" (top 28) f21)
 (A22:Af K "is_note" (top 42) f22)
 (A23:Af K "is_jar" (top 46) f23)
 (A24:Af K "need_jar" (top 49) f24)
 (A25:Af K "changed" (top 52) f25)
 (A26:Af K "when_last" (top 56) f26)
 (A27:Af K "later_of" (top 55) f27)
 (A28:Af K "need_no_more_than_a_jar_has" (top 50) f28)
 (A29:Af K "place_of" (top 54) f29)
 (A30:Af K "merged" (top 53) f30)
 (A31:Af K "_law_stays" (top 65) f31)
 (AL:Af K "law" (top 66) fl) (ma:CC.all (CS K)=true) :
 ∃ fd:FL,(∀ (s:c_) (v:Value),KB s fd ⟨[v],[]⟩ [("_law_script",v)])∧∀ base:Heap,K.In base→base.Ns EA mg→FnOk l.prog w K mg base CX0 9 fa fd ["_law_script"] (spF K qS 1):=by
 have e:=hfa.symm.trans (JV X G AL.a)
 cases e
 have M:=z5 X G CC ma
 obtain ⟨fd,Fn⟩:=AL.F
 refine ⟨fd,?_,fun base _ _=>?_⟩
 · obtain ⟨oc,od,kV,doc,pm,an,cdv,ct,osl,rfl,lk,hcd⟩:=Fn.ex
   exact fun s v=>.of_eq rfl
 have t0:HA l.prog w K mg base T0:=z4
 have t1:=ku X G M A1 t0
 have t2:=jh X G M A2 t1
 have t3:=kw X G M A3 t2
 have t4:=kx X G M A4 t3
 have t5:=lC X G M A5 t4
 have t6:=lD X G M A6 t5
 have t7:=kz X G M A7 t6
 have t8:=AB X G M A8 t7
 have t9:=dL X G M A9 t8
 have t10:=ji X G M A10 t9
 have t11:=el X G M A11 t10
 have t12:=kA X G M A12 t11
 have t13:=dw X G M A13 t12
 have t14:=jj X G M A14 t13
 have t15:=lE X G M A15 t14
 have t16:=oj X G M A16 t15
 have t17:=gO X G M A17 t16
 have t18:=om X G M A18 t17
 have t19:=lF X G M A19 t18
 have t20:=hJ X G M A20 t19
 have t21:=lG X G M A21 t20
 have t22:=oo X G M A22 t21
 have t23:=qP X G M A23 t22
 have t24:=lH X G M A24 t23
 have t25:=oq X G M A25 t24
 have t26:=kB X G M A26 t25
 have t27:=lI X G M A27 t26
 have t28:=bM X G M A28 t27
 have t29:=lK X G M A29 t28
 have t30:=qQ X G M A30 t29
 have t31:=jm X G M A31 t30
 exact AC X G M Fn t31
end G
set_option maxHeartbeats 4000000
namespace FD
open PySem PySem.Spec PyProof.Rows L2
theorem m4 {elt:FnE} {cap:Ev} {α:Type} (en:α→Dv) (f:α→Dv):∀ {l:List α},(∀ a∈l,elt (cap.set 0 (some (en a)))=some (.ok (f a)))→pC none elt cap (l.map en)=some (l.map f)
 | [],_=>rfl
 | a :: l,h=>by
  have ih:=m4 (elt:=elt) (cap:=cap) en f (l:=l) fun b hb=>h b (k_ _ hb)
  rw [t_,t_]
  unfold pC
  dsimp only
  rw [h a h_,ih]
theorem kG {tst:FnB} {elt:FnE} {cap:Ev} {α:Type} (en:α→Dv) (p:α→Bool) (f:α→Dv):∀ {l:List α},(∀ a∈l,tst (cap.set 0 (some (en a)))=some (.ok (p a))∧elt (cap.set 0 (some (en a)))=some (.ok (f a)))→pC (some tst) elt cap (l.map en)=some ((l.filter p).map f)
 | [],_=>rfl
 | a :: l,h=>by
  have ih:=kG (tst:=tst) (elt:=elt) (cap:=cap) en p f (l:=l) fun b hb=>h b (k_ _ hb)
  obtain ⟨h1,h2⟩:=h a h_
  rw [t_]
  unfold pC
  dsimp only
  rw [h1,ih]
  cases q:p a with
  | true=>dsimp only; rw [h2,Ie q]; rfl
  | false=>dsimp only; rw [G6 (by rw [q]; decide)]
theorem m5 {elt:FnE} {cap:Ev} {α:Type} (en:α→Dv) (f:α→Dv):∀ {l:List α},(∀ a∈l,elt (cap.set 0 (some (en a)))=some (.ok (f a)))→jT (gN 0) none elt cap (l.map en)=some (l.map f)
 | [],_=>rfl
 | a :: l,h=>by
  have ih:=m5 (elt:=elt) (cap:=cap) en f (l:=l) fun b hb=>h b (k_ _ hb)
  rw [t_,t_]
  unfold jT
  show (match elt (cap.set 0 (some (en a))) with | some (.ok y)=>_ | _=>_)=_
  rw [h a h_,ih]
theorem fK {cs:List (Str×Nat)} {src:FnA} {elt:FnE} {ρ:Ev} {α:Type} (en f:α→Dv) {l:List α} (hs:src ρ=some (.ok (l.map en))) (hl:l.length≤100000) (h:∀ a∈l,elt ((oE cs ρ).set 0 (some (en a)))=some (.ok (f a))):ba cs src none elt ρ=some (.ok (.lst (l.map f))):=by
 unfold ba
 rw [hs]
 show (match pC none elt (oE cs ρ) (l.map en) with | some ys=>_ | none=>_)=_
 rw [m4 en f h]
 dsimp only
 rw [if_pos ⟨by simpa using hl,by simpa using hl⟩]
theorem ca {cs:List (Str×Nat)} {src:FnA} {tst:FnB} {elt:FnE} {ρ:Ev} {α:Type} (en:α→Dv) (p:α→Bool) (f:α→Dv) {l:List α} (hs:src ρ=some (.ok (l.map en))) (hl:l.length≤100000) (h:∀ a∈l,tst ((oE cs ρ).set 0 (some (en a)))=some (.ok (p a))∧elt ((oE cs ρ).set 0 (some (en a)))=some (.ok (f a))) :
 ba cs src (some tst) elt ρ=some (.ok (.lst ((l.filter p).map f))):=by
 unfold ba
 rw [hs]
 show (match pC (some tst) elt (oE cs ρ) (l.map en) with | some ys=>_ | none=>_)=_
 rw [kG en p f h]
 dsimp only
 have:=Hr p l
 rw [if_pos ⟨by simp; omega,by simpa using hl⟩]
theorem gS {cs:List (Str×Nat)} {src:FnA} {elt:FnE} {ρ:Ev} {α:Type} (en f:α→Dv) {l:List α} (hs:src ρ=some (.ok (l.map en))) (hl:l.length≤100000) (h:∀ a∈l,elt ((eE 1 cs ρ).set 0 (some (en a)))=some (.ok (f a))):bI 1 cs src (gN 0) none elt ρ=some (.ok (.lst (l.map f))):=by
 unfold bI
 rw [hs]
 show (match jT (gN 0) none elt (eE 1 cs ρ) (l.map en) with | some ys=>_ | none=>_)=_
 rw [m5 en f h]
 dsimp only
 rw [if_pos ⟨by simpa using hl,by simpa using hl⟩]
theorem xn {i j:Int} (h:-(2 ^ 62)≤i∧i < 2 ^ 62∧-(2 ^ 62)≤j∧j < 2 ^ 62):sj [.int i,.int j]=some (.ok (rng i (j - i).toNat)):=by rw [sj,if_pos h]
theorem xo {j:Int} (h:-(2 ^ 62)≤j∧j < 2 ^ 62):pv [.int j]=some (.ok (rng 0 j.toNat)):=by rw [pv,if_pos h]
theorem xq {n:Nat} (h:n≤1000):-(2 ^ 62)≤(1:Int)∧(1:Int) < 2 ^ 62∧-(2 ^ 62)≤(n:Int)∧(n:Int) < 2 ^ 62:=by omega
theorem AD {n:Nat} (h:n≤1000):sj [.int 1,.int (n:Int)]=some (.ok (rng 1 ((n:Int) - 1).toNat)):=xn (xq h)
theorem AE {n:Nat} (h:n≤1000):pv [.int (n:Int)]=some (.ok (rng 0 n)):=by
 rw [xo (by omega)]; rfl
theorem kH {α:Type} (p:α→Bool):∀ l:List α,iT (l.map fun a=>Dv.bl (p a))=some (l.map p)
 | []=>rfl
 | a :: l=>by
  show (match iT (l.map fun a=>Dv.bl (p a)) with | some bs=>some (p a :: bs) | none=>none)=_
  rw [kH p l]
  rfl
mutual
def pln:Dv→Bool
 | .exn _=>false
 | .tup ds=>plns ds
 | .lst ds=>plns ds
 | _=>true
def plns:List Dv→Bool
 | []=>true
 | d :: ds=>pln d && plns ds
end
mutual
theorem jr:∀ d:Dv,pln d=true→EW (bp d) (bp d)=true
 | .non,_=>by simp [bp,EW]
 | .bl b,_=>by simp [bp,EW]
 | .int b,_=>by simp [bp,EW]
 | .str b,_=>by simp [bp,EW]
 | .tup ds,h=>by simp only [bp,EW]; exact eqvs_refl ds (by simpa [pln] using h)
 | .lst ds,h=>by simp only [bp,EW]; exact eqvs_refl ds (by simpa [pln] using h)
 | .scr ns,_=>by
  simp only [bp,EW]
  induction ns with
  | nil=>simp [Gi]
  | cons n ns ih=>simp [Gi,EW]; exact ih rfl
 | .exn _,h=>by simp [pln] at h
theorem eqvs_refl:∀ ds:List Dv,plns ds=true→Gi (toPys ds) (toPys ds)=true
 | [],_=>by simp [toPys,Gi]
 | d :: ds,h=>by
  have h':pln d=true∧plns ds=true:=by simpa [plns] using h
  simp only [toPys,Gi,on]
  exact ⟨jr d h'.1,eqvs_refl ds h'.2⟩
end
theorem xr {d:Dv} (h1:okP d=true) (h2:pln d=true):neX d d=some (.ok (.bl false)):=by
 unfold neX
 split
 · rename_i b hb
   have:b=true:=by
    cases d <;> simp [eqS] at hb
    · exact hb
    · exact hb
    · exact hb
    · rw [← hb]; unfold seq; simp
   rw [this]; rfl
 · rw [h1,jr d h2]; rfl
theorem xt {d:Dv} (h1:okP d=true) (h2:pln d=true):eqX d d=some (.ok (.bl true)):=by
 unfold eqX
 split
 · rename_i b hb
   have:b=true:=by
    cases d <;> simp [eqS] at hb
    · exact hb
    · exact hb
    · exact hb
    · rw [← hb]; unfold seq; simp
   rw [this]
 · rw [h1,jr d h2]; rfl
structure It1 (k:Nat) (d:Dv):Prop where
 c:Fm (bp d)=true
 dp:(bp d).depth≤k
 p:pln d=true
theorem uh {k:Nat}:∀ {ds:List Dv},(∀ d∈ds,It1 k d)→FX (toPys ds)=true∧GJ (toPys ds)≤k∧plns ds=true
 | [],_=>by simp [toPys,FX,GJ,plns]
 | d :: ds,h=>by
  obtain ⟨h1,h2,h3⟩:=uh (ds:=ds) fun d' hd=>h d' (k_ _ hd)
  have h0:=h d h_
  simp only [toPys,FX,GJ,plns,on]
  exact ⟨⟨h0.c,h1⟩,by have:=h0.dp; omega,h0.p,h3⟩
theorem m7 {k:Nat} {ds:List Dv} (h:∀ d∈ds,It1 k d):It1 (k + 1) (.tup ds):=by
 obtain ⟨h1,h2,h3⟩:=uh h
 exact ⟨by simpa [bp,Fm] using h1,by simp [bp,Ik]; exact h2,by simpa [pln] using h3⟩
theorem qT {k:Nat} {ds:List Dv} (h:∀ d∈ds,It1 k d):It1 (k + 1) (.lst ds):=by
 obtain ⟨h1,h2,h3⟩:=uh h
 exact ⟨by simpa [bp,Fm] using h1,by simp [bp,Ik]; exact h2,by simpa [pln] using h3⟩
theorem It1.okP {k:Nat} {d:Dv} (h:It1 k d) (hk:k≤64):okP d=true:=by
 unfold FD.okP SeqAt.shaped
 rw [h.c]
 have:=h.dp
 simp
 omega
theorem It1.le {k m:Nat} {d:Dv} (h:It1 k d) (hk:k≤m):It1 m d:=⟨h.c,EM h.dp hk,h.p⟩
theorem fw {x:Str} (h:Fm (.str x)=true):It1 0 (.str x):=⟨h,by simp [bp,Ik],rfl⟩
theorem m8 {i:Int}:It1 0 (.int i):=⟨rfl,by simp [bp,Ik],rfl⟩
theorem AF {i:Bool}:It1 0 (.bl i):=⟨rfl,by simp [bp,Ik],rfl⟩
theorem AG:It1 0 .non:=⟨rfl,by simp [bp,Ik],rfl⟩
theorem kJ {α:Type} (f:α→Dv):∀ l:List α,toPys (l.map f)=l.map fun a=>bp (f a)
 | []=>rfl
 | a :: l=>by simp [toPys,kJ f l]
theorem AH {x:Dv} {α:Type} {en:α→Dv} {l:List α} {p:α→Bool} (hx:It1 5 x) (hf:iR x=false) (hl:∀ a∈l,It1 5 (en a)) (hp:∀ a∈l,EW (bp (en a)) (bp x)=p a):inX x (.lst (l.map en))=some (.ok (.bl (l.any p)))∧bu x (.lst (l.map en))=some (.ok (.bl (!l.any p)))∧inX x (.tup (l.map en))=some (.ok (.bl (l.any p)))∧bu x (.tup (l.map en))=some (.ok (.bl (!l.any p))):=by
 have e:inP x (l.map en)=some (l.any p):=by
  unfold inP
  have h1:=hx.okP (by omega)
  have h2:=(uh (k:=5) (ds:=l.map en) (by intro d hd; obtain ⟨a,ha,rfl⟩:=m_.mp hd; exact hl a ha)).1
  have h3:decide ((bp x).depth≤63)=true:=by have:=hx.dp; simp; omega
  rw [h1,h2,h3]
  simp only [Bool.and_self,if_true]
  rw [kJ]
  congr 1
  clear h1 h2 h3 hl hx
  induction l with
  | nil=>rfl
  | cons a l ih =>
   simp only [t_,F8]
   rw [hp a h_,ih fun b hb=>hp b (k_ _ hb)]
 have e0:∀ ys,inL x ys=none:=fun ys=>by unfold inL; rw [hf]; rfl
 have n1:vX x (.lst (l.map en))=none:=by cases x <;> first | exact e0 _ | rfl
 have n2:vX x (.tup (l.map en))=none:=by cases x <;> first | exact e0 _ | rfl
 refine ⟨?_,?_,?_,?_⟩ <;> simp [inX,bu,zv,n1,n2,e]
end FD
namespace G
open PySem PySem.Spec PyProof.Rows L2 FD
theorem xu (ns:List Int) (hl:ns.length≤63) (k:Int):∃ c,bq [.scr ns,.int k]=some (.ok (.int c)):=by
 cases ns with
 | nil=>exact ⟨7 * k,by kernel_rfl⟩
 | cons n r =>
  have h0:0 < (n :: r).length:=by simp
  have h1:(0:Int) < ((n :: r).length:Int):=by omega
  have h2:((n :: r).length:Int) < 1073741824:=by omega
  have h3:0≤k % ((n :: r).length:Int):=GL _ (by omega)
  have h4:k % ((n :: r).length:Int) < ((n :: r).length:Int):=Gh _ h1
  have h5:(k % ((n :: r).length:Int)).toNat < (n :: r).length:=by omega
  refine ⟨(n :: r)[(k % ((n :: r).length:Int)).toNat] + 6553 * (k / ((n :: r).length:Int)),?_⟩
  have hat:atD (n :: r) (k % ((n :: r).length:Int))=some (n :: r)[(k % ((n :: r).length:Int)).toNat]:=by
   unfold atD
   rw [if_pos h3,n_ h5]
  have hm:dO (.int k) (.int ((n :: r).length:Int))=some (.ok (.int (k % ((n :: r).length:Int)))):=by
   show (if 0 < ((n :: r).length:Int) then _ else _)=_
   rw [if_pos h1]
  have hd:dS (.int k) (.int ((n :: r).length:Int))=some (.ok (.int (k / ((n :: r).length:Int)))):=by
   show (if 0 < ((n :: r).length:Int)∧((n :: r).length:Int) < 1073741824 then _ else _)=_
   rw [if_pos ⟨h1,h2⟩]
  have hi:ixD (.scr (n :: r)) (.int (k % ((n :: r).length:Int)))=some (.ok (.int (n :: r)[(k % ((n :: r).length:Int)).toNat])):=by
   show (match atD (n :: r) (k % ((n :: r).length:Int)) with | some d=>_ | none=>_)=_
   rw [hat]
  show (match bW [some (.scr (n :: r)),some (.int k)] with | some (.nx _)=>_ | some (.rt d)=>_ | _=>_)=_
  have e:bW [some (.scr (n :: r)),some (.int k)]=dk (bnd (bnd (dO (.int k) (.int ((n :: r).length:Int))) fun i=>ixD (.scr (n :: r)) i) fun x=>bnd (bnd (dS (.int k) (.int ((n :: r).length:Int))) fun q=>fA (.int 6553) q) fun y=>gW x y) fun d=>some (.rt d):=by kernel_rfl
  rw [e,hm,hd]
  show (match dk (bnd (ixD (.scr (n :: r)) (.int (k % ((n :: r).length:Int)))) fun x=>_) _ with | some (.nx _)=>_ | some (.rt d)=>_ | _=>_)=_
  rw [hi]
  kernel_rfl
def dr1 (c k:Int):Int:=(c % 2147483563 * 69069 + 104723 * (k + 1)) % 2147483563
def dr2 (c:Int):Int:=(c * c + c / 3) % 2147483399
def dr3 (c m:Int):Int:=(c * c + c / 7) % 2147483647 / 11 % m
theorem kK {i j:Int} (h:(-18446744073709551616 < i∧i < 18446744073709551616)∨(-18446744073709551616 < j∧j < 18446744073709551616)):fA (.int i) (.int j)=some (.ok (.int (i * j))):=by
 show (if _ then _ else _)=_
 rw [if_pos h]
theorem kL {i j:Int} (h:0 < j):dO (.int i) (.int j)=some (.ok (.int (i % j))):=by
 show (if _ then _ else _)=_
 rw [if_pos h]
theorem bb (ns:List Int) (hl:ns.length≤63) (k m:Int) (hm:0 < m):∃ d:Int,0≤d∧d < m∧ac [.scr ns,.int k,.int m]=some (.ok (.int d)):=by
 obtain ⟨c,hc⟩:=xu ns hl k
 refine ⟨dr3 (dr2 (dr1 c k)) m,GL _ (by omega),Gh _ hm,?_⟩
 have b1:0≤dr1 c k∧dr1 c k < 2147483563:=⟨GL _ (by omega),Gh _ (by omega)⟩
 have b2:0≤dr2 (dr1 c k)∧dr2 (dr1 c k) < 2147483399:=⟨GL _ (by omega),Gh _ (by omega)⟩
 have b0:0≤c % 2147483563∧c % 2147483563 < 2147483563:=⟨GL _ (by omega),Gh _ (by omega)⟩
 show bR 4 bw [.scr ns,.int k,.int m]=_
 have s1:(ae bq 2 (aa (ab 0) (aa (ab 1) ag))) [some (.scr ns),some (.int k),some (.int m),none]=some (.ok (.int c)):=by
  show (match bq [.scr ns,.int k] with | some (.ok d)=>(some (.ok d):Option (Rs Dv)) | _=>none)=_
  rw [hc]
 have e1:(dN 3 (f2 dO (f2 gW (f2 fA (f2 dO (ae bq 2 (aa (ab 0) (aa (ab 1) ag))) (fC (.int 2147483563))) (fC (.int 69069))) (f2 fA (fC (.int 104723)) (f2 gW (ab 1) (fC (.int 1))))) (fC (.int 2147483563)))) [some (.scr ns),some (.int k),some (.int m),none]=some (.nx [some (.scr ns),some (.int k),some (.int m),some (.int (dr1 c k))]):=by
  show dk (bnd (bnd (bnd (bnd ((ae bq 2 (aa (ab 0) (aa (ab 1) ag))) [some (.scr ns),some (.int k),some (.int m),none]) fun x=>dO x (.int 2147483563)) fun x=>fA x (.int 69069)) fun x=>bnd (fA (.int 104723) (.int (k + 1))) fun y=>gW x y) fun x=>dO x (.int 2147483563)) (fun d=>some (.nx [some (.scr ns),some (.int k),some (.int m),some d]))=_
  rw [s1]
  show dk (bnd (bnd (bnd (dO (.int c) (.int 2147483563)) fun x=>fA x (.int 69069)) fun x=>bnd (fA (.int 104723) (.int (k + 1))) fun y=>gW x y) fun x=>dO x (.int 2147483563)) _=_
  rw [kL (by omega),kK (i:=104723) (.inl (by omega))]
  show dk (bnd (bnd (fA (.int (c % 2147483563)) (.int 69069)) fun x=>gW x (.int (104723 * (k + 1)))) fun x=>dO x (.int 2147483563)) _=_
  rw [kK (.inl (by omega))]
  show dk (dO (.int (c % 2147483563 * 69069 + 104723 * (k + 1))) (.int 2147483563)) _=_
  rw [kL (by omega)]
  rfl
 generalize hd1:dr1 c k=d1 at *
 have e2:(dN 3 (f2 dO (f2 gW (f2 fA (ab 3) (ab 3)) (f2 dS (ab 3) (fC (.int 3)))) (fC (.int 2147483399)))) [some (.scr ns),some (.int k),some (.int m),some (.int d1)]=some (.nx [some (.scr ns),some (.int k),some (.int m),some (.int (dr2 d1))]):=by
  show dk (bnd (bnd (fA (.int d1) (.int d1)) fun x=>gW x (.int (d1 / 3))) fun x=>dO x (.int 2147483399)) (fun d=>some (.nx [some (.scr ns),some (.int k),some (.int m),some d]))=_
  rw [kK (.inl (by omega))]
  show dk (dO (.int (d1 * d1 + d1 / 3)) (.int 2147483399)) _=_
  rw [kL (by omega)]
  rfl
 generalize hd2:dr2 d1=d2 at *
 have e3:(bf (f2 dO (f2 dS (f2 dO (f2 gW (f2 fA (ab 3) (ab 3)) (f2 dS (ab 3) (fC (.int 7)))) (fC (.int 2147483647))) (fC (.int 11))) (ab 2))) [some (.scr ns),some (.int k),some (.int m),some (.int d2)]=some (.rt (.int (dr3 d2 m))):=by
  show dk (bnd (bnd (bnd (bnd (fA (.int d2) (.int d2)) fun x=>gW x (.int (d2 / 7))) fun x=>dO x (.int 2147483647)) fun x=>dS x (.int 11)) fun x=>dO x (.int m)) (fun d=>some (.rt d))=_
  rw [kK (.inl (by omega))]
  show dk (bnd (bnd (dO (.int (d2 * d2 + d2 / 7)) (.int 2147483647)) fun x=>dS x (.int 11)) fun x=>dO x (.int m)) _=_
  rw [kL (by omega)]
  show dk (dO (.int ((d2 * d2 + d2 / 7) % 2147483647 / 11)) (.int m)) _=_
  rw [kL hm]
  rfl
 show (match bw [some (.scr ns),some (.int k),some (.int m),none] with | some (.nx _)=>_ | some (.rt d)=>_ | _=>_)=_
 have e:bw [some (.scr ns),some (.int k),some (.int m),none]=some (.rt (.int (dr3 d2 m))):=by
  show sq ((dN 3 _) _) (fun ρ=>sq ((dN 3 _) ρ) _)=_
  rw [e1]
  show sq ((dN 3 _) [some (.scr ns),some (.int k),some (.int m),some (.int d1)]) _=_
  rw [e2]
  exact e3
 rw [e]
def menu:List Str:=[b_ "a.b",b_ "b",b_ "x.a.b",b_ "y.x.a.b",b_ "c.uk",b_ "uk",b_ "d.c.uk",b_ "e.d.c.uk",b_ "w.ck",b_ "v.w.ck",b_ "ck",b_ "g-1.a.b",b_ "7.b",b_ "p.q"]
theorem xx (ns:List Int) (hl:ns.length≤63) (k:Int):∃ p∈menu,bX [.scr ns,.int k]=some (.ok (.str p)):=by
 obtain ⟨d,h0,h1,hd⟩:=bb ns hl k 14 (by omega)
 have e:bX [.scr ns,.int k]=(match dk (bnd (match ac [.scr ns,.int k,.int 14] with | some (.ok d)=>(some (.ok d):Option (Rs Dv)) | _=>none) fun i=>ixD (.lst (menu.map Dv.str)) i) fun d=>some (.rt d) with
  | some (.nx _)=>some (.ok .non)
  | some (.rt d)=>some (.ok d)
  | _=>none):=by kernel_rfl
 rw [e,hd]
 have hc:d=0∨d=1∨d=2∨d=3∨d=4∨d=5∨d=6∨d=7∨d=8∨d=9∨d=10∨d=11∨d=12∨d=13:=by omega
 rcases hc with rfl | rfl | rfl | rfl | rfl | rfl | rfl | rfl | rfl | rfl | rfl | rfl | rfl | rfl
 · exact ⟨b_ "a.b",by simp [menu],by kernel_rfl⟩
 · exact ⟨b_ "b",by simp [menu],by kernel_rfl⟩
 · exact ⟨b_ "x.a.b",by simp [menu],by kernel_rfl⟩
 · exact ⟨b_ "y.x.a.b",by simp [menu],by kernel_rfl⟩
 · exact ⟨b_ "c.uk",by simp [menu],by kernel_rfl⟩
 · exact ⟨b_ "uk",by simp [menu],by kernel_rfl⟩
 · exact ⟨b_ "d.c.uk",by simp [menu],by kernel_rfl⟩
 · exact ⟨b_ "e.d.c.uk",by simp [menu],by kernel_rfl⟩
 · exact ⟨b_ "w.ck",by simp [menu],by kernel_rfl⟩
 · exact ⟨b_ "v.w.ck",by simp [menu],by kernel_rfl⟩
 · exact ⟨b_ "ck",by simp [menu],by kernel_rfl⟩
 · exact ⟨b_ "g-1.a.b",by simp [menu],by kernel_rfl⟩
 · exact ⟨b_ "7.b",by simp [menu],by kernel_rfl⟩
 · exact ⟨b_ "p.q",by simp [menu],by kernel_rfl⟩
def pths : List Str := [b_ "/", b_ "/x", b_ "/x/", b_ "/x/y", b_ "/xy", b_ "/x/y/z.q", b_ "//", b_ "/-_.9", b_ "/x/y/"]
theorem xz (ns:List Int) (hl:ns.length≤63) (k:Int):∃ p∈pths,bY [.scr ns,.int k]=some (.ok (.str p)):=by
 obtain ⟨d,h0,h1,hd⟩:=bb ns hl k 9 (by omega)
 have e:bY [.scr ns,.int k]=(match dk (bnd (match ac [.scr ns,.int k,.int 9] with | some (.ok d)=>(some (.ok d):Option (Rs Dv)) | _=>none) fun i=>ixD (.lst (pths.map Dv.str)) i) fun d=>some (.rt d) with
  | some (.nx _)=>some (.ok .non)
  | some (.rt d)=>some (.ok d)
  | _=>none):=by kernel_rfl
 rw [e,hd]
 have hc:d=0∨d=1∨d=2∨d=3∨d=4∨d=5∨d=6∨d=7∨d=8:=by omega
 rcases hc with rfl | rfl | rfl | rfl | rfl | rfl | rfl | rfl | rfl
 · exact ⟨b_ "/",by simp [pths],by kernel_rfl⟩
 · exact ⟨b_ "/x",by simp [pths],by kernel_rfl⟩
 · exact ⟨b_ "/x/",by simp [pths],by kernel_rfl⟩
 · exact ⟨b_ "/x/y",by simp [pths],by kernel_rfl⟩
 · exact ⟨b_ "/xy",by simp [pths],by kernel_rfl⟩
 · exact ⟨b_ "/x/y/z.q",by simp [pths],by kernel_rfl⟩
 · exact ⟨b_ "//",by simp [pths],by kernel_rfl⟩
 · exact ⟨b_ "/-_.9", by simp [pths], by kernel_rfl⟩
 · exact ⟨b_ "/x/y/",by simp [pths],by kernel_rfl⟩
theorem qU (F:List Dv→Option (Rs Dv)) {f g k:FnE} {ρ:Ev} {a b c d:Dv} (h:f ρ=some (.ok a)) (h':g ρ=some (.ok b)) (h'':k ρ=some (.ok c)) (hF:F [a,b,c]=some (.ok d)):ae F 3 (aa f (aa g (aa k ag))) ρ=some (.ok d):=fF (ao h (ao h' (ao h'' aK))) rfl hF
theorem l4 {f:FnE} {ρ:Ev} {ds:List Dv} (h:f ρ=some (.ok (.tup ds))):bP f ρ=some (.ok ds):=by unfold bP; rw [h]; rfl
abbrev bo (k:Bool):Option (Rs Dv):=some (.ok (.bl k))
def En:List Str:=menu
def okY:Option (Rs Dv)→Bool
 | some (.ok (.bl true))=>true
 | _=>false
theorem ng {o:Option (Rs Dv)} (h:okY o=true):o=some (.ok (.bl true)):=by
 unfold okY at h; split at h
 · rfl
 · cases h
def nms:List Str:=[b_ "n",b_ "m-1",b_ "safe-a",b_ "N_2"]
def wts:List Str:=[b_ "5",b_ "",b_ "a!b~"]
theorem AI:(nms.all fun n=>okY (bj [.str n]))=true:=by kernel_rfl
theorem AJ:(wts.all fun n=>okY (cz [.str n]))=true:=by kernel_rfl
theorem AK:(En.all fun n=>okY (dc [.str n]))=true:=by kernel_rfl
theorem AM:(pths.all fun n=>okY (df [.str n]))=true:=by kernel_rfl
theorem Eo {n:Str} (h:n∈nms):bj [.str n]=bo true:=ng (gL (p:=fun n=>okY (bj [.str n])) AI h)
theorem Ep {n:Str} (h:n∈wts):cz [.str n]=bo true:=ng (gL (p:=fun n=>okY (cz [.str n])) AJ h)
theorem Er {n:Str} (h:n∈En):dc [.str n]=bo true:=ng (gL (p:=fun n=>okY (dc [.str n])) AK h)
theorem Es {n:Str} (h:n∈pths):df [.str n]=bo true:=ng (gL (p:=fun n=>okY (df [.str n])) AM h)
theorem me {h:Str} (q:h∈menu):h∈En:=q
theorem nh {l:List Dv} {d:Int} (h0:0≤d) (h1:d < l.length):∃ x∈l,ixD (.lst l) (.int d)=some (.ok x):=by
 have h2:d.toNat < l.length:=by omega
 refine ⟨l[d.toNat],Ki h2,?_⟩
 show (match atD l d with | some d=>_ | none=>_)=_
 unfold atD
 rw [if_pos h0,n_ h2]
theorem C9 (i:Int):br [.int i]=bo (decide (0≤i) && decide (i≤9999)):=by
 have e:aS [.int i,.int 0,.int 9999]=bo (decide (0≤i) && decide (i≤9999)):=by
  by_cases h0:0≤i
  · simp [aS,bR,aR,bD,sq,cV,bf,dk,bnd,bOr,fW,fB,toB,ab,f1,f2,kT,iU,fm,pN,leX,h0]
  · simp [aS,bR,aR,bD,sq,cV,bf,dk,bnd,bOr,fW,fB,toB,ab,f1,f2,kT,iU,fm,pN,leX,h0]
 simp [br,bR,cL,bf,dk,bnd,ae,aa,ag,ab,fC,e]
theorem xA {i:Int} (h0:0≤i) (h1:i≤9999):br [.int i]=bo true:=by
 rw [C9]; simp [h0,h1]
def Mo (u:Dv):Prop:=u=.non∨∃ i:Int,0≤i∧i≤9999∧u=.int i
theorem AN {u:Dv} (h:Mo u):aB [u]=bo true:=by
 rcases h with rfl | ⟨i,h0,h1,rfl⟩
 · simp [aB,bR,aI,bf,dk,bnd,toB,ab,fC,f2,vOr,isN]
 · simp [aB,bR,aI,bf,dk,bnd,toB,ae,aa,ag,ab,fC,f2,vOr,isN,xA h0 h1]
theorem xB {R:Str} (h:R=b_ "any"∨R=b_ "near"):eT [.str R]=bo true∧∃ r,eqX (.str R) (.str "any")=bo r∧eqX (.str R) (.str "near")=bo (!r):=by
 rcases h with rfl | rfl
 · exact ⟨by kernel_rfl,true,by kernel_rfl,by kernel_rfl⟩
 · exact ⟨by kernel_rfl,false,by kernel_rfl,by kernel_rfl⟩
structure Note where
 nm:Str
 w:Str
 house:Str
 ex:Bool
 path:Str
 ends:Option Int
 S:Bool
 R:Str
 md:Int
 us:Int
deriving DecidableEq
def eO:Option Int→Dv
 | none=>.non
 | some i=>.int i
def enc (n:Note):Dv:=.tup [.str n.nm,.str n.w,.str n.house,.bl n.ex,.str n.path,eO n.ends,.bl n.S,.str n.R,.int n.md,.int n.us]
def ek (n:Note):Dv:=.tup [.str n.nm,.str n.house,.str n.path]
def key (n:Note):List Str:=[n.nm,n.house,n.path]
structure Good (n:Note):Prop where
 nm:n.nm∈nms
 w:n.w∈wts
 house:n.house∈En
 path:n.path∈pths
 R:n.R=b_ "any"∨n.R=b_ "near"
 ends:∀ i,n.ends=some i→0≤i∧i≤59
 mk0:0≤n.md
 mu:n.md≤n.us
 us:n.us≤99
theorem Da {n:Note} (g:Good n):Mo (eO n.ends):=by
 cases h:n.ends with
 | none=>exact .inl rfl
 | some i=>exact .inr ⟨i,(g.ends i h).1,by have:=(g.ends i h).2; omega,rfl⟩
theorem AO {n:Note} (g:Good n):b5 [enc n]=bo true:=by
 have e0:cO [enc n,.int 10]=bo true:=by kernel_rfl
 have e1:=xA g.mk0 (by have:=g.mu; have:=g.us; omega)
 have e2:=xA (Int.le_trans g.mk0 g.mu) (by have:=g.us; omega)
 have e3:aB [eO n.ends]=bo true:=AN (Da g)
 unfold enc at e0 ⊢
 simp [b5,bR,em,bD,sq,cV,bf,dk,bnd,bOr,fW,fB,toB,ae,aa,ag,ab,fC,f1,f2,ixD,atD,c0,fB1,iU,fm,e0,e1,e2,Eo g.nm,Ep g.w,Er g.house,Es g.path,e3,(xB g.R).1,nK,iT,leX,g.mu]
def signs0:List Str:=nms ++ (wts ++ (En ++ (pths ++ [b_ "any",b_ "near"])))
theorem xC:(signs0.all fun x=>Fm (.str x))=true:=by kernel_rfl
theorem kM {x:Str} (h:x∈signs0):Fm (.str x)=true:=gL (p:=fun x=>Fm (.str x)) xC h
theorem Db (o:Option Int):It1 0 (eO o):=by cases o; exact AG; exact m8
theorem Good.sR {n:Note} (g:Good n):n.R∈signs0:=by
 unfold signs0
 rcases g.R with h | h <;> rw [h] <;> simp
theorem ni {n:Note} (g:Good n):It1 1 (enc n):=by
 refine m7 (k:=0) fun d hd=>?_
 simp only [pi,FK,or_false] at hd
 rcases hd with rfl | rfl | rfl | rfl | rfl | rfl | rfl | rfl | rfl | rfl
 · exact fw (kM (by simp [signs0,g.nm]))
 · exact fw (kM (by simp [signs0,g.w]))
 · exact fw (kM (by simp [signs0,g.house]))
 · exact AF
 · exact fw (kM (by simp [signs0,g.path]))
 · exact Db _
 · exact AF
 · exact fw (kM g.sR)
 · exact m8
 · exact m8
theorem qV {n:Note} (g:Good n):It1 1 (ek n):=by
 refine m7 (k:=0) fun d hd=>?_
 simp only [pi,FK,or_false] at hd
 rcases hd with rfl | rfl | rfl
 · exact fw (kM (by simp [signs0,g.nm]))
 · exact fw (kM (by simp [signs0,g.house]))
 · exact fw (kM (by simp [signs0,g.path]))
theorem u4 (a b:Note):EW (bp (ek a)) (bp (ek b))=decide (key a=key b):=by
 rw [Fh]
 simp [ek,key,bp,toPys,EW,Gi]
theorem AQ (a b:Option Int):EW (bp (eO a)) (bp (eO b))=decide (a=b):=by
 cases a <;> cases b <;> simp [eO,bp,EW]
 rw [Fh]; simp
theorem xD (a b:Note):EW (bp (enc a)) (bp (enc b))=decide (a=b):=by
 rw [Fh]
 have e:=AQ a.ends b.ends
 cases a; cases b
 simp [enc,bp,toPys,EW,Gi,e]
theorem AR {a b:Note} (ga:Good a) (gb:Good b):eqX (ek a) (ek b)=bo (decide (key a=key b))∧neX (ek a) (ek b)=bo (!decide (key a=key b)):=by
 have h1:=(qV ga).okP (by omega)
 have h2:=(qV gb).okP (by omega)
 have h3:=u4 a b
 have h0:eqS (ek a) (ek b)=none:=rfl
 constructor
 · unfold eqX; rw [h0,h1,h2,h3]; rfl
 · unfold neX; rw [h0,h1,h2,h3]; rfl
def ej (js:List Note):Dv:=.tup (js.map enc)
structure Jar (js:List Note):Prop where
 g:∀ n∈js,Good n
 s:∀ i (h:i + 1 < js.length),js[i].md≤js[i + 1].md
 k:(js.map key).Nodup
 l:js.length≤18
theorem u5 {α β:Type} {o:Option (Rs α)} {a:α} {k:α→Option (Rs β)} (h:o=some (.ok a)):bnd o k=k a:=by rw [h]; rfl
theorem l7:∀ (n:Nat) (lo:Int),rng lo n=(g_ n).map fun i:Nat=>Dv.int (lo + (i:Int))
 | 0,lo=>rfl
 | n + 1,lo=>by
  rw [KG]
  show Dv.int lo :: rng (lo + 1) n=_
  rw [l7 n (lo + 1)]
  simp only [t_,E_]
  congr 1
  · simp
  · congr 1
    funext i
    simp only [HN]
    congr 1
    omega
theorem di {f g:dC} {ρ ρ':Ev} {ds ds':List Dv} (h:f ρ ds=some (.nx ρ' ds')):cR f g ρ ds=g ρ' ds':=by unfold cR; rw [h]
theorem qW {j:Nat} {f:FnE} {ρ ρ':Ev} {ds:List Dv} {d:Dv} (h:f ρ=some (.ok d)) (e:ρ.set j (some d)=ρ'):c7 j f ρ ds=some (.nx ρ' ds):=by unfold c7; rw [h,← e]; rfl
theorem jt {xs:List Dv} {i:Nat} {ρ:Ev} (h:ρ[i]?=some (some (.lst xs))):bP (ab i) ρ=some (.ok xs):=by
 unfold bP ab
 rw [h]
 rfl
theorem gT {js:List Note} {i:Nat} {ρ:Ev} (h:ρ[i]?=some (some (ej js))):bP (ab i) ρ=some (.ok (js.map enc)):=by
 unfold bP ab
 rw [h]
 rfl
theorem qX {xs:List Note} (hg:∀ o∈xs,Good o):It1 2 (.lst (xs.map enc)):=qT fun d hd=>by
 obtain ⟨x,hx,rfl⟩:=m_.mp hd
 exact ni (hg x hx)
theorem AS {xs:List Note} (hg:∀ o∈xs,Good o):It1 2 (ej xs):=m7 fun d hd=>by
 obtain ⟨x,hx,rfl⟩:=m_.mp hd
 exact ni (hg x hx)
theorem nil_eq {xs:List Note} (hg:∀ o∈xs,Good o):eqX (.lst (xs.map enc)) (.lst [])=bo xs.isEmpty:=by
 cases xs with
 | nil=>kernel_rfl
 | cons o rest =>
  have i2:=(qX hg).okP (by omega)
  have i3:okP (.lst [])=true:=by kernel_rfl
  unfold eqX
  rw [show eqS (.lst ((o :: rest).map enc)) (.lst [])=none from rfl,i2,i3]
  simp [bp,toPys,EW,Gi]
theorem kN:∀ l:List Int,imms (l.map Dv.int)=true
 | []=>rfl
 | i :: l=>by show (imm (.int i) && imms (l.map Dv.int))=true; rw [kN l]; rfl
theorem qY (a b:Int):bg (.int a) (.int b)=some (.ok (.int (a + b))):=rfl
structure JI (B:Nat) (js:List Note) (now:Int):Prop where
 g:∀ n∈js,Good n
 s:js.Pairwise fun a b=>a.md≤b.md
 k:(js.map key).Nodup
 l:js.length≤B
 n0:0≤now
 n1:now≤3 * B
 m:∀ n∈js,n.md≤now
 u:∀ n∈js,n.us≤39
theorem JI.keep {B:Nat} {js:List Note} {now d:Int} (J:JI B js now) (h0:0≤d) (h1:d < 4):JI (B + 1) js (now + d) :=
 ⟨J.g,J.s,J.k,by have:=J.l; omega,by have:=J.n0; omega,by have:=J.n1; omega,fun n hn=>by have:=J.m n hn; omega,J.u⟩
theorem JI.add {B:Nat} {js:List Note} {now d:Int} {n:Note} (J:JI B js now) (h0:0≤d) (h1:d < 4) (g:Good n) (hu:n.us≤39) (hm:n.md=now + d) (hf:js.filter (fun o=>decide (key o=key n))=[]):JI (B + 1) (js ++ [n]) (now + d):=by
 have hk:∀ o∈js,key o≠key n:=fun o ho e=>by
  have:o∈js.filter (fun o=>decide (key o=key n)):=D_.mpr ⟨ho,by simp [e]⟩
  rw [hf] at this; cases this
 refine ⟨fun x hx=>?_,?_,?_,by have:=J.l; simp; omega,by have:=J.n0; omega,by have:=J.n1; omega,fun x hx=>?_,fun x hx=>?_⟩
 · rcases A_.mp hx with h | h
   · exact J.g x h
   · rw [EE.mp h]; exact g
 · refine Hw.mpr ⟨J.s,Kg ..,fun a ha b hb=>?_⟩
   rw [EE.mp hb,hm]
   have:=J.m a ha
   omega
 · rw [y_]
   refine Gq.mpr ⟨J.k,by simp,fun a ha b hb e=>?_⟩
   obtain ⟨o,ho,rfl⟩:=m_.mp ha
   simp only [t_,Iw,EE] at hb
   exact hk o ho (e.trans hb)
 · rcases A_.mp hx with h | h
   · have:=J.m x h; omega
   · rw [EE.mp h,hm]; omega
 · rcases A_.mp hx with h | h
   · exact J.u x h
   · rw [EE.mp h]; exact hu
theorem JI.jar {B:Nat} {js:List Note} {now:Int} (J:JI B js now) (hB:B≤18):Jar js :=
 ⟨J.g,fun i h=>GH.mp J.s i (i + 1) (by omega) h (by omega),J.k,by have:=J.l; omega⟩
def jb (ns:List Int) (z m now:Int):Ev:=[some (.scr ns),some (.int z),some (.int m),none,some (.int now),none,none,none,none,none,none,none,none,none,none,none]
def cJ:FnB:=(fB (f2 eqX (ba [("_law_note",15)] (bP (ab 3)) (some (fB (f2 eqX (cf (aa (f2 ixD (ab 0) (fC (.int 0))) (aa (f2 ixD (ab 0) (fC (.int 2))) (aa (f2 ixD (ab 0) (fC (.int 4))) ag)))) (cf (aa (f2 ixD (ab 1) (fC (.int 0))) (aa (f2 ixD (ab 1) (fC (.int 2))) (aa (f2 ixD (ab 1) (fC (.int 4))) ag))))))) (ab 0)) (c0 ag)))
theorem Dc {js:List Note} {n:Note} {ρ:Ev} (hg:∀ o∈js,Good o) (gn:Good n) (hl:js.length≤18) (h3:ρ[3]?=some (some (.lst (js.map enc)))) (h15:ρ[15]?=some (some (enc n))):cJ ρ=some (.ok (js.filter (fun o=>decide (key o=key n))).isEmpty):=by
 have hc:oE [("_law_note",15)] ρ=[none,some (enc n)]:=by simp [oE,h15]
 have e1:=ca (cs:=[("_law_note",15)]) (src:=bP (ab 3)) (tst:=(fB (f2 eqX (cf (aa (f2 ixD (ab 0) (fC (.int 0))) (aa (f2 ixD (ab 0) (fC (.int 2))) (aa (f2 ixD (ab 0) (fC (.int 4))) ag)))) (cf (aa (f2 ixD (ab 1) (fC (.int 0))) (aa (f2 ixD (ab 1) (fC (.int 2))) (aa (f2 ixD (ab 1) (fC (.int 4))) ag))))))) (elt:=ab 0) (ρ:=ρ) enc (fun o=>decide (key o=key n)) enc (jt h3) (by omega) fun o ho=>⟨by
  rw [hc]
  exact bC ((aP (x:=ek o) (y:=ek n) rfl rfl).trans (AR (hg o ho) gn).1),by rw [hc]; rfl⟩
 exact bC ((aP e1 rfl).trans (nil_eq fun o ho=>hg o (D_.mp ho).1))
theorem qZ (ns:List Int) (hl:ns.length≤63) (z m now k:Int) {B:Nat} {js:List Note} (J:JI B js now) (hB:B≤10) :
 ∃ ρ' js' now',aG ((jb ns z m now).set 5 (some (.int k))) (js.map enc)=some (.nx ρ' (js'.map enc))∧fgt [5,6,7,8,9,10,11,12,13,14,15] ρ'=jb ns z m now'∧JI (B + 1) js' now':=by
 obtain ⟨here,hh⟩:∃ here,here=z + 1 + 14 * k:=⟨_,rfl⟩
 obtain ⟨d0,a0,b0,e0⟩:=bb ns hl here 4 (by omega)
 obtain ⟨d1,a1,b1,e1⟩:=bb ns hl (here + 1) 4 (by omega)
 obtain ⟨d2,a2,b2,e2⟩:=bb ns hl (here + 2) 3 (by omega)
 obtain ⟨d4,a4,b4,e4⟩:=bb ns hl (here + 4) 2 (by omega)
 obtain ⟨d6,a6,b6,e6⟩:=bb ns hl (here + 6) 2 (by omega)
 obtain ⟨d7,a7,b7,e7⟩:=bb ns hl (here + 7) 60 (by omega)
 obtain ⟨d8,a8,b8,e8⟩:=bb ns hl (here + 8) 2 (by omega)
 obtain ⟨d9,a9,b9,e9⟩:=bb ns hl (here + 9) 3 (by omega)
 obtain ⟨d10,a10,b10,e10⟩:=bb ns hl (here + 10) 5 (by omega)
 obtain ⟨n3,hn3,e3⟩:=xx ns hl (here + 3)
 obtain ⟨p5,hp5,e5⟩:=xz ns hl (here + 5)
 obtain ⟨x1,m1,i1⟩:=nh (l:=[.str "n",.str "m-1",.str "safe-a",.str "N_2"]) a1 b1
 obtain ⟨x2,m2,i2⟩:=nh (l:=[.str "5",.str "",.str "a!b~"]) a2 b2
 obtain ⟨x6,m6,i6⟩:=nh (l:=[.non,.int d7]) a6 b6
 obtain ⟨x9,m9,i9⟩:=nh (l:=[.str "any",.str "any",.str "near"]) a9 b9
 have g1:∃ nm∈nms,x1=.str nm:=by
  simp only [pi,FK,or_false] at m1
  rcases m1 with rfl | rfl | rfl | rfl <;> exact ⟨_,by simp [nms],rfl⟩
 have g2:∃ nm∈wts,x2=.str nm:=by
  simp only [pi,FK,or_false] at m2
  rcases m2 with rfl | rfl | rfl <;> exact ⟨_,by simp [wts],rfl⟩
 have g6:∃ o:Option Int,(∀ i,o=some i→0≤i∧i≤59)∧x6=eO o:=by
  simp only [pi,FK,or_false] at m6
  rcases m6 with rfl | rfl
  · exact ⟨none,by simp,rfl⟩
  · exact ⟨some d7,fun i hi=>by cases hi; omega,rfl⟩
 have g9:∃ R,(R=b_ "any"∨R=b_ "near")∧x9=.str R:=by
  simp only [pi,FK,or_false] at m9
  rcases m9 with rfl | rfl | rfl
  · exact ⟨_,.inl rfl,rfl⟩
  · exact ⟨_,.inl rfl,rfl⟩
  · exact ⟨_,.inr rfl,rfl⟩
 obtain ⟨nm,hnm,rfl⟩:=g1
 obtain ⟨w,hw,rfl⟩:=g2
 obtain ⟨o,ho,rfl⟩:=g6
 obtain ⟨R,hR,rfl⟩:=g9
 let n:Note:=⟨nm,w,n3,d4 == 0,p5,o,d8 == 0,R,now + d0,now + d0 + d10⟩
 have q0:=J.n0
 have q1:=J.n1
 have gn:Good n:=⟨hnm,hw,me hn3,hp5,hR,ho,by show 0≤now + d0; omega,by show now + d0≤now + d0 + d10; omega,by show now + d0 + d10≤99; omega⟩
 let E15:Ev:=[some (.scr ns),some (.int z),some (.int m),none,some (.int (now + d0)),some (.int k),some (.int here),some (.str nm),some (.str w),some (eO o),some (.bl (d4 == 0)),some (.tup [.str nm,.str w,.str n3,.bl (d4 == 0),.str p5]),some (.str R),some (.bl (d8 == 0)),some (.int (now + d0 + d10)),some (enc n)]
 have hc:=Dc (ρ:=E15.set 3 (some (.lst (js.map enc)))) J.g gn (by have:=J.l; omega) rfl rfl
 have hmul:fA (.int 14) (.int k)=some (.ok (.int (14 * k))):=kK (.inl (by omega))
 have hrun:aG ((jb ns z m now).set 5 (some (.int k))) (js.map enc)=sP 3 cJ (oF (ab 15)) rQ E15 (js.map enc):=by
  have eB:aG=(cR (c7 6 (f2 bg (f2 bg (ab 1) (fC (.int 1))) (f2 fA (fC (.int 14)) (ab 5)))) (cR (c7 4 (f2 bg (ab 4) (ae ac 3 (aa (ab 0) (aa (ab 6) (aa (fC (.int 4)) ag)))))) (cR (c7 7 (f2 ixD (c0 (aa (fC (.str "n")) (aa (fC (.str "m-1")) (aa (fC (.str "safe-a")) (aa (fC (.str "N_2")) ag))))) (ae ac 3 (aa (ab 0) (aa (f2 bg (ab 6) (fC (.int 1))) (aa (fC (.int 4)) ag)))))) (cR (c7 8 (f2 ixD (c0 (aa (fC (.str "5")) (aa (fC (.str "")) (aa (fC (.str "a!b~")) ag)))) (ae ac 3 (aa (ab 0) (aa (f2 bg (ab 6) (fC (.int 2))) (aa (fC (.int 3)) ag)))))) (cR (c7 9 (f2 ixD (c0 (aa (fC .non) (aa (ae ac 3 (aa (ab 0) (aa (f2 bg (ab 6) (fC (.int 7))) (aa (fC (.int 60)) ag)))) ag))) (ae ac 3 (aa (ab 0) (aa (f2 bg (ab 6) (fC (.int 6))) (aa (fC (.int 2)) ag)))))) (cR (c7 10 (f2 eqX (ae ac 3 (aa (ab 0) (aa (f2 bg (ab 6) (fC (.int 4))) (aa (fC (.int 2)) ag)))) (fC (.int 0)))) (cR (c7 11 (cf (aa (ab 7) (aa (ab 8) (aa (ae bX 2 (aa (ab 0) (aa (f2 bg (ab 6) (fC (.int 3))) ag))) (aa (ab 10) (aa (ae bY 2 (aa (ab 0) (aa (f2 bg (ab 6) (fC (.int 5))) ag))) ag))))))) (cR (c7 12 (f2 ixD (c0 (aa (fC (.str "any")) (aa (fC (.str "any")) (aa (fC (.str "near")) ag)))) (ae ac 3 (aa (ab 0) (aa (f2 bg (ab 6) (fC (.int 9))) (aa (fC (.int 3)) ag)))))) (cR (c7 13 (f2 eqX (ae ac 3 (aa (ab 0) (aa (f2 bg (ab 6) (fC (.int 8))) (aa (fC (.int 2)) ag)))) (fC (.int 0)))) (cR (c7 14 (f2 bg (ab 4) (ae ac 3 (aa (ab 0) (aa (f2 bg (ab 6) (fC (.int 10))) (aa (fC (.int 5)) ag)))))) (cR (c7 15 (f2 bg (ab 11) (cf (aa (ab 9) (aa (ab 13) (aa (ab 12) (aa (ab 4) (aa (ab 14) ag)))))))) (sP 3 cJ (oF (ab 15)) rQ)))))))))))):=rfl
  rw [eB]
  subst hh
  simp [jb,cR,c7,pL,bnd,ae,aa,ag,ab,fC,f2,cf,c0,qY,hmul,e0,e1,e2,e3,e4,e5,e6,e7,e8,e9,e10,i1,i2,i6,i9,eqX,eqS,E15,enc,n]
  simp [bg]
 rw [hrun]
 cases hf:(js.filter (fun o=>decide (key o=key n))) with
 | nil =>
  rw [hf] at hc
  refine ⟨E15,js ++ [n],now + d0,?_,rfl,J.add a0 b0 gn (by show now + d0 + d10≤39; omega) rfl hf⟩
  unfold sP
  rw [hc]
  show (if (js.map enc).length < 100000 then _ else _)=_
  rw [if_pos (by have:=J.l; simp; omega)]
  show some (Fo.nx _ (js.map enc ++ [enc n]))=_
  simp
 | cons c r =>
  rw [hf] at hc
  refine ⟨E15,js,now + d0,?_,rfl,J.keep a0 b0⟩
  unfold sP
  rw [hc]
  rfl
theorem nj (ns:List Int) (hl:ns.length≤63) (z m:Int):∀ (ks:List Int) (ρ:Ev) (now:Int) (B:Nat) (js:List Note),B + ks.length≤10→fgt [5,6,7,8,9,10,11,12,13,14,15] ρ=jb ns z m now→JI B js now →
 ∃ js' now',gc 5 [5,6,7,8,9,10,11,12,13,14,15] aG (ks.map Dv.int) ρ (js.map enc)=some (.nx (jb ns z m now') (js'.map enc))∧JI (B + ks.length) js' now'
 | [],ρ,now,B,js,_,hρ,J=>⟨js,now,by show some (Fo.nx _ _)=_; rw [hρ],J⟩
 | k :: ks,ρ,now,B,js,hb,hρ,J=>by
  simp only [EG] at hb
  obtain ⟨ρ',js',now',e,hρ',J'⟩:=qZ ns hl z m now k J (by omega)
  obtain ⟨js2,now2,e2,J2⟩:=nj ns hl z m ks ρ' now' (B + 1) js' (by omega) hρ' J'
  refine ⟨js2,now2,?_,by rw [EG,show B + (ks.length + 1)=B + 1 + ks.length by omega]; exact J2⟩
  show (match aG ((fgt _ ρ).set 5 (some (.int k))) (js.map enc) with
   | some (.nx ρ' xs')=>gc 5 _ aG (ks.map Dv.int) ρ' xs'
   | o=>o)=_
  rw [hρ,e]
  exact e2
theorem rf (ns:List Int) (hl:ns.length≤63) (z:Int) (m:Nat) (hm:m≤8):∃ js now,aL [.scr ns,.int z,.int m]=some (.ok (ej js))∧Jar js∧js.length≤m∧JI m js now:=by
 obtain ⟨d,a0,b0,e0⟩:=bb ns hl z (m + 1) (by omega)
 obtain ⟨c,rfl⟩:∃ c:Nat,d=(c:Int):=⟨d.toNat,by omega⟩
 have hr:pv [.int (c:Int)]=some (.ok (((g_ c).map fun i:Nat=>(i:Int)).map Dv.int)):=by
  rw [AE (by omega),l7]
  simp
 obtain ⟨js,now,e,J⟩:=nj ns hl z m ((g_ c).map fun i:Nat=>(i:Int)) (jb ns z m 0) 0 0 [] (by simp; omega) rfl ⟨by simp,Hs,by simp,by simp,by omega,by omega,by simp,by simp⟩
 have hlen:((g_ c).map fun i:Nat=>(i:Int)).length=c:=by simp
 rw [hlen] at J
 have J5:=J.l
 refine ⟨js,now,?_,J.jar (by omega),by omega,⟨J.g,J.s,J.k,by omega,J.n0,by have:=J.n1; omega,J.m,J.u⟩⟩
 refine c6 (d:=ej js) ?_
 show uR 3 ag _ [some (.scr ns),some (.int z),some (.int m),none,none,none,none,none,none,none,none,none,none,none,none,none]=_
 have hsrc:(fun ρ=>bnd ((aa (ae ac 3 (aa (ab 0) (aa (ab 1) (aa (f2 bg (ab 2) (fC (.int 1))) ag)))) ag) ρ) pv) (jb ns z m 0)=some (.ok (((g_ c).map fun i:Nat=>(i:Int)).map Dv.int)):=by
  have h:(aa (ae ac 3 (aa (ab 0) (aa (ab 1) (aa (f2 bg (ab 2) (fC (.int 1))) ag)))) ag) (jb ns z m 0)=some (.ok [.int (c:Int)]):=by
   simp [bnd,aa,ag,ae,fC,ab,f2,jb,qY,e0]
  exact (u5 (k:=pv) h).trans hr
 have hfor:pM 5 [5,6,7,8,9,10,11,12,13,14,15] (fun ρ=>bnd ((aa (ae ac 3 (aa (ab 0) (aa (ab 1) (aa (f2 bg (ab 2) (fC (.int 1))) ag)))) ag) ρ) pv) aG (jb ns z m 0) []=some (.nx (jb ns z m now) (js.map enc)):=by
  unfold pM
  rw [hsrc]
  show (if imms (((g_ c).map fun i:Nat=>(i:Int)).map Dv.int)=true then _ else none)=_
  rw [if_pos (kN _)]
  exact e
 have hle:js.length≤100000:=by omega
 have hret:uQ 3 (fB1 fq (aa (ab 3) ag)) (jb ns z m now) (js.map enc)=some (.rt (ej js)):=by
  unfold uQ
  rw [cg (ao (x:=.lst (js.map enc)) rfl aK)]
  rfl
 have hbody:(cR (c7 4 (fC (.int 0))) (cR (pM 5 [5,6,7,8,9,10,11,12,13,14,15] (fun ρ=>bnd ((aa (ae ac 3 (aa (ab 0) (aa (ab 1) (aa (f2 bg (ab 2) (fC (.int 1))) ag)))) ag) ρ) pv) aG) (uQ 3 (fB1 fq (aa (ab 3) ag))))) [some (.scr ns),some (.int z),some (.int m),none,none,none,none,none,none,none,none,none,none,none,none,none] []=some (.rt (ej js)):=by
  rw [di (show c7 4 (fC (.int 0)) [some (.scr ns),some (.int z),some (.int m),none,none,none,none,none,none,none,none,none,none,none,none,none] []=some (.nx (jb ns z m 0) []) from rfl)]
  rw [di hfor]
  exact hret
 unfold uR
 show (if ([]:List Dv).length≤100000 then _ else none)=_
 rw [if_pos (by simp)]
 exact (congrArg (fun o=>match o with | some (Fo.nx ρ' ds')=>some (Fl.nx (List.set ρ' 3 (some (Dv.lst ds')))) | some (Fo.rt d)=>some (Fl.rt d) | none=>none) hbody).trans rfl
theorem cU (n:Note):bK [enc n]=some (.ok (ek n)):=by simp [bK,bR,ug,bf,dk,bnd,aa,ag,ab,fC,f2,ixD,atD,cf,enc,ek]
theorem kO:∀ js:List Note,gh (js.map ek)=some (js.map key)
 | []=>rfl
 | n :: js=>by
  show (match aN [.str n.nm,.str n.house,.str n.path],gh (js.map ek) with | some k,some ks=>some (k :: ks) | _,_=>none)=_
  rw [kO js]
  rfl
theorem rg {js:List Note}:((ST.ddk (js.map key)).length == js.length)=decide ((js.map key).Nodup):=by
 have:=ST.ddk_eq (js.map key)
 rw [Ey] at this
 rw [Fh]
 simp [this]
theorem xE {js:List Note} (hl:js.length≤18):aZ [ej js]=bo (decide ((js.map key).Nodup)):=by
 have e1:bI 1 [] (bP (ab 0)) (gN 0) none (ae bK 1 (aa (ab 0) ag)) [some (ej js),none]=some (.ok (.lst (js.map ek))) :=
  gS enc ek (gT rfl) (by omega) fun n hn=>cW bK rfl (cU n)
 have e2:gk [.lst (js.map ek)]=some (.ok (.int (ST.ddk (js.map key)).length)):=by
  show (match gh (js.map ek) with | some ks=>if ks.length≤20 then (some (.ok (.int (ST.ddk ks).length)):Option (Rs Dv)) else none | none=>none)=_
  rw [kO]
  dsimp only
  rw [if_pos (by simp; omega)]
 refine c6 ?_
 show aM [some (ej js),none]=_
 unfold aM
 rw [aw (bU (ρ':=[some (ej js),some (.lst (js.map ek))]) e1 rfl)]
 refine eK ((aP ((cg (ao (x:=.lst (js.map ek)) rfl aK)).trans e2) (y:=.int js.length) (by show some (Rs.ok (Dv.int ((js.map ek).length:Int)))=_; rw [Ey])).trans ?_)
 show some (Rs.ok (Dv.bl (((ST.ddk (js.map key)).length:Int) == (js.length:Int))))=_
 rw [← rg]
 congr 3
 rw [Fh]
 simp
 omega
theorem all_map {α:Type} (p:α→Bool) (l:List α):nK [.lst (l.map fun a=>Dv.bl (p a))]=bo (l.all p):=by
 unfold nK
 dsimp only
 rw [kH p l]
 dsimp only
 rw [List.all_map]
 rfl
theorem ui {α:Type} (l:List α):nK [.lst (l.map fun _=>Dv.bl true)]=bo true:=by
 rw [all_map (fun _=>true) l]
 simp
theorem AT {js:List Note} {i:Nat} (h:i < js.length):ixD (ej js) (.int i)=some (.ok (enc js[i])):=by
 show (match atD (js.map enc) (i:Int) with | some d=>_ | none=>_)=_
 unfold atD
 rw [if_pos (by omega)]
 simp [h]
theorem AU (n:Note):ixD (enc n) (.int 8)=some (.ok (.int n.md)):=rfl
theorem AV (js:List Note) (hl:js.length≤18):(fun ρ=>bnd ((aa (fC (.int 1)) (aa (fB1 fY (aa (ab 0) ag)) ag)) ρ) sj) [some (ej js)]=some (.ok ((g_ (js.length - 1)).map fun i:Nat=>Dv.int (1 + (i:Int)))):=by
 have h:(aa (fC (.int 1)) (aa (fB1 fY (aa (ab 0) ag)) ag)) [some (ej js)]=some (.ok [.int 1,.int js.length]):=by
  simp [bnd,aa,ag,fB1,fC,ab,ej,fY]
 refine (u5 (k:=sj) h).trans ?_
 rw [AD (by omega),l7,show ((js.length:Int) - 1).toNat=js.length - 1 by omega]
def DJ:FnE:=(f2 leX (f2 ixD (f2 ixD (ab 1) (f2 y3 (ab 0) (fC (.int 1)))) (fC (.int 8))) (f2 ixD (f2 ixD (ab 1) (ab 0)) (fC (.int 8))))
def rR (js:List Note) (i:Nat):Int:=(js[i]?.map Note.md).getD 0
def riB (js:List Note):Bool:=(g_ (js.length - 1)).all fun i=>decide (rR js i≤rR js (i + 1))
theorem ju {js:List Note} {i:Nat} (h:i < js.length):rR js i=js[i].md:=by
 unfold rR
 rw [n_ h]
 rfl
theorem AW {js:List Note} {i:Nat} (hi':i + 1 < js.length):DJ [some (.int (1 + (i:Int))),some (ej js)]=some (.ok (.bl (decide (rR js i≤rR js (i + 1))))):=by
 have h1:f2 ixD (ab 1) (f2 y3 (ab 0) (fC (.int 1))) [some (.int (1 + (i:Int))),some (ej js)]=some (.ok (enc js[i])):=by
  have q:=AT (js:=js) (i:=i) (by omega)
  rw [show (i:Int)=1 + (i:Int) - 1 by omega] at q
  exact q
 have h2:f2 ixD (ab 1) (ab 0) [some (.int (1 + (i:Int))),some (ej js)]=some (.ok (enc js[i + 1])):=by
  have q:=AT (js:=js) (i:=i + 1) hi'
  rw [show ((i + 1:Nat):Int)=1 + (i:Int) by omega] at q
  exact q
 rw [ju (show i < js.length by omega),ju hi']
 exact (aP ((aP h1 rfl).trans (AU _)) ((aP h2 rfl).trans (AU _))).trans rfl
theorem AX {js:List Note} (hl:js.length≤18):cj [ej js]=bo (riB js):=by
 have e:=fK (cs:=[("notes",0)]) (src:=(fun ρ=>bnd ((aa (fC (.int 1)) (aa (fB1 fY (aa (ab 0) ag)) ag)) ρ) sj)) (elt:=DJ) (ρ:=[some (ej js)]) (fun i:Nat=>Dv.int (1 + (i:Int))) (fun i:Nat=>Dv.bl (decide (rR js i≤rR js (i + 1)))) (AV js hl) (by rw [Ix]; omega) fun i hi=>AW (by have:=EH.mp hi; omega)
 exact c6 (d:=.bl (riB js)) (eK ((cg (ao e aK)).trans (all_map (fun i:Nat=>decide (rR js i≤rR js (i + 1))) _)))
def isJ (js:List Note):Bool:=riB js && decide ((js.map key).Nodup)
theorem Dd {js:List Note} (hg:∀ n∈js,Good n) (hl:js.length≤18):cP [ej js]=bo (isJ js):=by
 have ta:ba [] (bP (ab 0)) none (ae b5 1 (aa (ab 0) ag)) [some (ej js)]=some (.ok (.lst (js.map fun _=>Dv.bl true))) :=
  fK enc (fun _=>Dv.bl true) (gT rfl) (by omega) fun n hn=>cW b5 rfl (AO (hg n hn))
 have tb:(bOr (fW (fB (f1 (iU nM) (ab 0)))) (fB (f2 gtD (fB1 fY (aa (ab 0) ag)) (fC (.int 20))))) [some (ej js)]=some (.ok false):=by
  have e3:¬ (20 < (js.length:Int)):=by omega
  simp [bOr,fW,fB,f1,f2,iU,nM,ab,bnd,toB,fB1,aa,ag,fC,ej,fY,Cb,e3]
 have tc:fB1 nK (aa (ba [] (bP (ab 0)) none (ae b5 1 (aa (ab 0) ag))) ag) [some (ej js)]=bo true:=(cg (ao ta aK)).trans (ui js)
 refine c6 ?_
 show et [some (ej js)]=_
 unfold et
 rw [aw (aV tb)]
 rw [aw (aV (lh (k:=true) (bC tc)))]
 refine eK ?_
 have hm:=cW cj (f:=ab 0) (ρ:=[some (ej js)]) rfl (AX hl)
 unfold isJ
 cases hr:riB js with
 | false=>rw [hr] at hm; rw [zo hm]; rfl
 | true=>rw [hr] at hm; rw [zp hm]; exact cW aZ rfl (xE hl)
theorem AY {js:List Note} (J:Jar js):isJ js=true:=by
 unfold isJ
 rw [on,decide_eq_true_eq]
 refine ⟨E6.mpr fun i hi=>?_,J.k⟩
 have hi':i + 1 < js.length:=by have:=EH.mp hi; omega
 rw [decide_eq_true_eq,ju (show i < js.length by omega),ju hi']
 exact J.s i hi'
theorem rh {js:List Note} (J:Jar js):cP [ej js]=bo true:=by rw [Dd J.g J.l,AY J]
end G
set_option Elab.async false
set_option linter.all false
set_option maxRecDepth 100000
set_option maxHeartbeats 4000000
namespace G
open PySem PySem.Spec PyProof.Rows L2 FD TS
theorem jv {k:Nat} {d:Dv} (h:It1 k d) (hk:k≤64):neX d d=some (.ok (.bl false)):=xr (h.okP hk) h.p
theorem iJ:∀ rs:List (List Dv),gq (rs.map Dv.tup)=some rs
 | []=>rfl
 | r :: rs=>by
  show (gq (rs.map Dv.tup)).map (r :: ·)=_
  rw [iJ rs]
  rfl
theorem ot {α:Type} (r:α→List Dv) (sg:List Nat) (h1:∀ a,sig (r a)=sg) (h2:dE sg=true) (h3:∀ a,tw (r a)=true) {xs:List α} (hl:xs.length < 64):cX [.lst (xs.map fun a=>.tup (r a))]=some (.ok (.lst ((av (fun a b=>!ltL (r b) (r a)) xs).map fun a=>.tup (r a)))):=by
 have e0:(xs.map fun a=>Dv.tup (r a))=(xs.map r).map Dv.tup:=by rw [E_]; rfl
 have e1:((av (fun a b=>!ltL (r b) (r a)) xs).map fun a=>Dv.tup (r a))=(av (fun a b=>!ltL b a) (xs.map r)).map Dv.tup:=by
  rw [← sort_map (le:=fun a b=>!ltL (r b) (r a)) r xs fun _ _ _ _=>rfl,E_]
  rfl
 rw [e0,e1]
 show (match gq ((xs.map r).map Dv.tup) with
  | some rows=>if ci rows=true then some (Rs.ok (Dv.lst ((av (fun a b=>!ltL b a) rows).map Dv.tup))) else none
  | none=>zP [.lst ((xs.map r).map Dv.tup)])=_
 rw [iJ]
 dsimp only
 rw [if_pos]
 unfold ci
 rw [on,decide_eq_true_eq,E6]
 refine ⟨by simpa using hl,fun q hq=>?_⟩
 obtain ⟨n,hn,rfl⟩:=m_.mp hq
 cases xs with
 | nil=>simp at hn
 | cons x xs=>simp [h1,h2,h3]
def l8 (n:Note):List Dv:=[.str n.nm,.str n.house,.str n.path]
def aO (xs:List Note):Dv:=.lst ((av (fun a b=>!ltL (l8 b) (l8 a)) xs).map ek)
theorem bc {xs:List Note} (hl:xs.length < 64):cX [.lst (xs.map ek)]=some (.ok (aO xs)):=ot l8 [1,1,1] (fun _=>rfl) rfl (fun _=>rfl) hl
theorem cb {xs:List Note} (hg:∀ n∈xs,Good n):It1 2 (aO xs):=qT fun d hd=>by
 obtain ⟨n,hn,rfl⟩:=m_.mp hd
 rw [(aj _ _).mem_iff] at hn
 exact qV (hg n hn)
def cY (ys:List Note) (n:Note):Bool:=ys.any fun m=>decide (key m=key n)
def uj (ys:List Note) (n:Note):Bool:=ys.any fun m=>decide (m=n)
theorem Bu {ys:List Note} {n:Note} (gy:∀ m∈ys,Good m) (gn:Good n):inX (ek n) (.lst (ys.map ek))=bo (cY ys n)∧bu (ek n) (.lst (ys.map ek))=bo (!cY ys n):=by
 have:=AH (x:=ek n) (en:=ek) (l:=ys) (p:=fun m=>decide (key m=key n)) ((qV gn).le (by omega)) rfl (fun a ha=>(qV (gy a ha)).le (by omega)) fun a _=>u4 a n
 exact ⟨this.1,this.2.1⟩
theorem De {ys:List Note} {n:Note} (gy:∀ m∈ys,Good m) (gn:Good n):bu (enc n) (ej ys)=bo (!uj ys n) :=
 (AH (x:=enc n) (en:=enc) (l:=ys) (p:=fun m=>decide (m=n)) ((ni gn).le (by omega)) rfl (fun a ha=>(ni (gy a ha)).le (by omega)) fun a _=>xD a n).2.2.2
theorem ri {a b:FnB} {ρ:Ev} {x y:Bool} (ha:a ρ=some (.ok x)) (hb:b ρ=some (.ok y)):oD a b ρ=some (.ok (x && y)):=by
 unfold oD
 rw [ha]
 cases x with
 | true=>exact hb
 | false=>rfl
def bd (xs ys:List Note):List Note:=xs.filter fun n=>!cY ys n
def unN (xs ys:List Note):List Note:=xs.filter fun n=>cY ys n && !uj ys n
def chg (xs ys:List Note):Dv:=.tup [aO (bd xs ys),aO (bd ys xs),aO (unN xs ys)]
theorem eA {xs ys:List Note} (h:∀ n∈xs,Good n):∀ n∈bd xs ys,Good n:=fun n hn=>h n (D_.mp hn).1
theorem fL {xs ys:List Note} (h:∀ n∈xs,Good n):∀ n∈unN xs ys,Good n:=fun n hn=>h n (D_.mp hn).1
theorem fN {xs ys:List Note}:(bd xs ys).length≤xs.length:=Hr _ _
theorem rj {xs ys:List Note}:(unN xs ys).length≤xs.length:=Hr _ _
theorem AZ {xs ys:List Note} (hx:∀ n∈xs,Good n) (hy:∀ n∈ys,Good n):It1 3 (chg xs ys):=m7 fun d hd=>by
 simp only [pi,FK,or_false] at hd
 rcases hd with rfl | rfl | rfl
 · exact cb (eA hx)
 · exact cb (eA hy)
 · exact cb (fL hx)
theorem cD {F:List Dv→Option (Rs Dv)} (hF:∀ n,F [enc n]=some (.ok (ek n))) {xs:List Note} {ρ:Ev} {i:Nat} (hl:xs.length≤100) (h:ρ[i]?=some (some (ej xs))):ba [] (bP (ab i)) none (ae F 1 (aa (ab 0) ag)) ρ=some (.ok (.lst (xs.map ek))) :=
 fK enc ek (gT h) (by omega) fun n _=>cW F rfl (hF n)
theorem nn {xs ys:List Note} {ρ:Ev} {i j:Nat} {s:Str} (hl:xs.length≤50) (hx:∀ n∈xs,Good n) (hy:∀ n∈ys,Good n) (h1:ρ[i]?=some (some (.lst (xs.map ek)))) (h2:ρ[j]?=some (some (.lst (ys.map ek)))) :
 fB1 cX (aa (ba [(s,j)] (bP (ab i)) (some (fB (f2 bu (ab 0) (ab 1)))) (ab 0)) ag) ρ=some (.ok (aO (bd xs ys))):=by
 have hc:∀ d,(oE [(s,j)] ρ).set 0 (some d)=[some d,some (.lst (ys.map ek))]:=fun d=>by simp [oE,h2]
 have e:=ca (cs:=[(s,j)]) (src:=bP (ab i)) (tst:=fB (f2 bu (ab 0) (ab 1))) (elt:=ab 0) (ρ:=ρ) ek (fun n=>!cY ys n) ek (jt h1) (by omega) fun n hn=>⟨by rw [hc]; exact bC ((aP (x:=ek n) rfl rfl).trans (Bu hy (hx n hn)).2),by rw [hc]; rfl⟩
 exact (cg (ao e aK)).trans (bc (by have:=fN (xs:=xs) (ys:=ys); show (bd xs ys).length < 64; omega))
theorem Bv {J:Dv} (h:cP [J]=bo true):aT [J]=some (.ok .non):=by simp [aT,bR,dv,bD,sq,cV,bf,gZ,dk,bnd,fW,fB,toB,ae,aa,ag,ab,fC,jM,h]
theorem dY (F:List Dv→Option (Rs Dv)) {a:Dv} {f:FnE} {ρ:Ev} (hf:f ρ=some (.ok a)) (h:F [a]=some (.ok .non)):gZ (ae F 1 (aa f ag)) ρ=some (.nx ρ):=sH (cW F hf h)
theorem bT {xs ys:List Note} (Jx:Jar xs) (Jy:Jar ys):aA [ej xs,ej ys]=some (.ok (chg xs ys)):=by
 have lx:=Jx.l
 have ly:=Jy.l
 refine c6 ?_
 show dg [some (ej xs),some (ej ys),none,none,none,none,none]=_
 unfold dg
 rw [aw (dY aT rfl (Bv (rh Jx))),aw (dY aT rfl (Bv (rh Jy)))]
 rw [aw (bU (cD cU (xs:=xs) (by omega) rfl) rfl)]
 simp only [GA,Gz]
 rw [aw (bU (cD cU (xs:=ys) (by omega) rfl) rfl)]
 simp only [GA,Gz]
 rw [aw (bU (nn (xs:=xs) (ys:=ys) (by omega) Jx.g Jy.g rfl rfl) rfl)]
 simp only [GA,Gz]
 rw [aw (bU (nn (xs:=ys) (ys:=xs) (by omega) Jy.g Jx.g rfl rfl) rfl)]
 simp only [GA,Gz]
 have e:=ca (cs:=[("other",1),("others",3)]) (src:=bP (ab 0)) (tst:=oD (fB (f2 inX (ae bK 1 (aa (ab 0) ag)) (ab 2))) (fB (f2 bu (ab 0) (ab 1)))) (elt:=ae bK 1 (aa (ab 0) ag)) (ρ:=[some (ej xs),some (ej ys),some (.lst (xs.map ek)),some (.lst (ys.map ek)),some (aO (bd xs ys)),some (aO (bd ys xs)),none]) enc (fun n=>cY ys n && !uj ys n) ek (gT rfl) (by omega) fun n hn =>
  ⟨ri (bC ((aP (x:=ek n) (cW bK rfl (cU n)) rfl).trans (Bu Jy.g (Jx.g n hn)).1)) (bC ((aP (x:=enc n) (y:=ej ys) rfl rfl).trans (De Jy.g (Jx.g n hn)))),cW bK rfl (cU n)⟩
 rw [aw (bU ((cg (ao e aK)).trans (bc (by have:=rj (xs:=xs) (ys:=ys); show (unN xs ys).length < 64; omega))) rfl)]
 rfl
def wl (n:Note):List Int:=[n.us,n.md]
def aX (a b:Note):Note:=if lz (wl b) (wl a)=true then b else a
theorem A0 (n:Note):aW [enc n]=some (.ok (.tup [.int n.us,.int n.md])):=by simp [aW,bR,cQ,bf,dk,bnd,aa,ag,ab,fC,f2,ixD,atD,cf,enc]
theorem Ba (a b:Note):gtT (.tup [.int b.us,.int b.md]) (.tup [.int a.us,.int a.md])=bo (lz (wl b) (wl a)):=rfl
theorem later_of (a b:Note):cB [enc a,enc b]=some (.ok (enc (aX a b))):=by
 have hc:fB (f2 gtT (ae aW 1 (aa (ab 1) ag)) (ae aW 1 (aa (ab 0) ag))) [some (enc a),some (enc b)]=some (.ok (lz (wl b) (wl a))):=bC ((aP (cW aW rfl (A0 b)) (cW aW rfl (A0 a))).trans (Ba a b))
 refine c6 ?_
 show cA [some (enc a),some (enc b)]=_
 unfold cA aX
 cases h:lz (wl b) (wl a) with
 | true =>
  rw [h] at hc
  exact wg (C8 hc)
 | false =>
  rw [h] at hc
  rw [aw (aV hc)]
  rfl
def kvN (l:List Note):Kv:=l.map fun n=>(key n,enc n)
def gX (l:List Note) (m:Note):List Note:=if cY l m=true then l.map (fun o=>if key o=key m then m else o) else l ++ [m]
theorem u8 (l:List Note) (m:Note):u3 (kvN l) (key m) (enc m)=kvN (gX l m):=by
 have e:((kvN l).any fun p=>decide (p.1=key m))=cY l m:=by
  unfold kvN cY
  rw [List.any_map]
  rfl
 unfold u3 gX
 rw [e]
 split
 · unfold kvN
   rw [E_,E_]
   apply FQ
   intro o _
   simp only [HN]
   split
   · rename_i h
     rw [h]
   · rfl
 · simp [kvN]
def nq (l:List Note) (n:Note):Option Note:=l.find? fun o=>decide (key o=key n)
theorem u9 (n:Note):∀ l:List Note,qD (kvN l) (key n)=(nq l n).map enc
 | []=>rfl
 | o :: l=>by
  have ih:=u9 n l
  unfold qD kvN nq at *
  simp only [t_,Gu]
  by_cases h:key o=key n
  · simp [h]
  · simp only [h,decide_false]
    exact ih
theorem jw {l:List Note} {n o:Note} (h:nq l n=some o):key o=key n∧o∈l:=by
 have h1:=KR h
 exact ⟨by simpa using h1,JC h⟩
theorem cE (a b:Note):aX a b=a∨aX a b=b:=by
 unfold aX
 split
 · exact .inr rfl
 · exact .inl rfl
def rm (l:List Note) (n:Note):Note:=aX ((nq l n).getD n) n
theorem jx (l:List Note) (n:Note):key (rm l n)=key n:=by
 unfold rm
 rcases cE ((nq l n).getD n) n with e | e
 · rw [e]
   cases h:nq l n with
   | none=>rfl
   | some o=>exact (jw h).1
 · rw [e]
def rn (l:List Note) (n:Note):List Note:=gX l (rm l n)
theorem jy (l:List Note) (m:Note):(gX l m).length≤l.length + 1:=by
 unfold gX
 split
 · simp
 · simp
def E5 (x y:Dv) (z:Option Dv):Ev:=[some x,some y,none,z,none]
theorem Bb (x y:Dv) (n:Note) (l:List Note) (h:l.length < 1000):bA (E5 x y (some (enc n))) (kvN l)=some (E5 x y (some (enc n)),kvN (gX l n)):=by
 have e1:ae bK 1 (aa (ab 3) ag) (E5 x y (some (enc n)))=some (.ok (ek n)):=cW bK rfl (cU n)
 unfold bA w9
 rw [e1]
 show (if (kvN l).length < 100000 then some (E5 x y (some (enc n)),u3 (kvN l) (key n) (enc n)) else none)=_
 rw [if_pos (by simp [kvN]; omega),u8]
theorem vb (x y:Dv):∀ (xs l:List Note) (z:Option Dv),l.length + xs.length < 1000→∃ z',jf 3 bA (xs.map enc) (E5 x y z) (kvN l)=some (E5 x y z',kvN (xs.foldl gX l))
 | [],l,z,_=>⟨z,rfl⟩
 | n :: xs,l,z,h=>by
  simp only [EG] at h
  have hp:=jy l n
  obtain ⟨z',e⟩:=vb x y xs (gX l n) (some (enc n)) (by omega)
  refine ⟨z',?_⟩
  show (match bA (E5 x y (some (enc n))) (kvN l) with | some (ρ',kv')=>jf 3 bA (xs.map enc) ρ' kv' | none=>none)=_
  rw [Bb x y n l (by omega)]
  exact e
theorem Bc (x y:Dv) (n:Note) (l:List Note) (h:l.length < 1000):bB (E5 x y (some (enc n))) (kvN l)=some (E5 x y (some (enc n)),kvN (rn l n)):=by
 have e1:ae bK 1 (aa (ab 3) ag) (E5 x y (some (enc n)))=some (.ok (ek n)):=cW bK rfl (cU n)
 have e2:w8 (ae bK 1 (aa (ab 3) ag)) (ab 3) (E5 x y (some (enc n))) (kvN l)=some (enc ((nq l n).getD n)):=by
  unfold w8
  rw [e1]
  show some ((qD (kvN l) (key n)).getD (enc n))=_
  rw [u9]
  cases nq l n <;> rfl
 have e3:iG cB (w8 (ae bK 1 (aa (ab 3) ag)) (ab 3)) (ab 3) (E5 x y (some (enc n))) (kvN l)=some (enc (rm l n)):=by
  unfold iG
  rw [e2]
  show (match cB [enc ((nq l n).getD n),enc n] with | some (.ok d)=>some d | _=>none)=_
  rw [later_of]
  rfl
 unfold bB w9
 rw [e3,e1]
 show (if (kvN l).length < 100000 then some (E5 x y (some (enc n)),u3 (kvN l) (key n) (enc (rm l n))) else none)=_
 rw [if_pos (by simp [kvN]; omega),← jx l n,u8]
 rfl
theorem ve (x y:Dv):∀ (xs l:List Note) (z:Option Dv),l.length + xs.length < 1000→∃ z',jf 3 bB (xs.map enc) (E5 x y z) (kvN l)=some (E5 x y z',kvN (xs.foldl rn l))
 | [],l,z,_=>⟨z,rfl⟩
 | n :: xs,l,z,h=>by
  simp only [EG] at h
  have hp:=jy l (rm l n)
  obtain ⟨z',e⟩:=ve x y xs (rn l n) (some (enc n)) (by show (gX l (rm l n)).length + _ < _; omega)
  refine ⟨z',?_⟩
  show (match bB (E5 x y (some (enc n))) (kvN l) with | some (ρ',kv')=>jf 3 bB (xs.map enc) ρ' kv' | none=>none)=_
  rw [Bc x y n l (by omega)]
  exact e
def ou (n:Note):List Dv:=[.int n.md,ek n]
def ltP (a b:Note):Bool:=ltL (ou a) (ou b)
def nr (xs:List Note):List Note:=av (fun a b=>!ltP b a) xs
theorem place_of (n:Note):bz [enc n]=some (.ok (.tup (ou n))):=by
 have e:ae bK 1 (aa (ab 0) ag) [some (enc n)]=some (.ok (ek n)):=cW bK rfl (cU n)
 refine c6 (d:=.tup (ou n)) ?_
 show cC [some (enc n)]=_
 unfold cC
 exact eK (li (ao (x:=.int n.md) rfl (ao e aK)) (show 2≤100000 by omega))
theorem ro:∀ xs:List Note,dG bz (xs.map enc)=some (xs.map ou)
 | []=>rfl
 | n :: xs=>by
  show (match bz [enc n],dG bz (xs.map enc) with | some (.ok (.tup es)),some rs=>some (es :: rs) | _,_=>none)=_
  rw [place_of,ro xs]
  rfl
theorem rq {xs:List Note} (h:xs.length < 64):ci (xs.map ou)=true:=by
 unfold ci
 rw [on,decide_eq_true_eq,E6]
 refine ⟨by simpa using h,fun r hr=>?_⟩
 obtain ⟨n,hn,rfl⟩:=m_.mp hr
 cases xs with
 | nil=>simp at hn
 | cons x xs=>rfl
theorem rA (n:Note):imm (enc n)=true:=by
 unfold enc
 cases h:n.ends <;> simp [imm,imms,eO]
theorem jz:∀ xs:List Note,imms (xs.map enc)=true
 | []=>by simp [imms]
 | n :: xs=>by simp [imms,rA n,jz xs]
theorem nu:∀ xs:List Note,imms ((xs.map ou).map Dv.tup)=true
 | []=>by simp [imms]
 | n :: xs=>by
  have:=nu xs
  simp only [t_,imms,on]
  exact ⟨by simp [imm,imms,ou,ek],this⟩
theorem ow (xs:List Note):gz (xs.map ou) (xs.map enc)=(nr xs).map enc:=by
 unfold gz nr
 have e:(xs.map ou).zip (xs.map enc)=xs.map fun n=>(ou n,enc n):=by
  rw [List.zip_map']
 rw [e,← TS.sort_map (le:=fun a b=>!ltP b a) (fun n=>(ou n,enc n)) xs fun _ _ _ _=>rfl,E_]
 rfl
theorem um {xs:List Note} (h:xs.length < 64):mX bz (xs.map enc)=some (.ok (.lst ((nr xs).map enc))):=by
 unfold mX
 rw [ro]
 dsimp only
 rw [if_pos ⟨rq h,jz xs,nu xs⟩,ow]
theorem jA (xs:List Note):(nr xs).length=xs.length:=(aj _ xs).length_eq
def mgd (xs ys:List Note):List Note:=ys.foldl rn (xs.foldl gX [])
theorem Bd (xs:List Note):fY [.lst (xs.map enc)]=some (.ok (.int (xs.length:Nat))):=by simp [fY]
theorem Df {xs:List Note} (h:xs.length≤20):ar [.lst (xs.map enc)]=some (.ok .non):=by
 have e:gtD (.int (xs.length:Nat)) (.int 20)=bo false:=by
  show some (Rs.ok (Dv.bl (decide ((20:Int) < (xs.length:Nat)))))=_
  rw [decide_eq_false (by omega)]
 simp [ar,bR,ax,cV,jM,dk,bnd,fB,toB,aa,ag,ab,fC,f2,fB1,Bd,e]
theorem rB {xs ys:List Note} (Jx:Jar xs) (Jy:Jar ys) (hl:(mgd xs ys).length≤20):aD [ej xs,ej ys]=some (.ok (ej (nr (mgd xs ys)))):=by
 have lx:=Jx.l
 have ly:=Jy.l
 refine c6 (d:=ej (nr (mgd xs ys))) ?_
 show ez [some (ej xs),some (ej ys),none,none,none]=_
 unfold ez
 rw [aw (dY aT rfl (Bv (rh Jx))),aw (dY aT rfl (Bv (rh Jy)))]
 obtain ⟨z1,e1⟩:=vb (ej xs) (ej ys) xs [] none (by simp; omega)
 have hpl:∀ (xs l:List Note),(xs.foldl gX l).length≤l.length + xs.length:=by
  intro xs
  induction xs with
  | nil=>intro l; simp
  | cons n xs ih =>
   intro l
   have:=ih (gX l n)
   have h2:=jy l n
   simp only [HR,EG]
   omega
 have hp0:=hpl xs []
 obtain ⟨z2,e2⟩:=ve (ej xs) (ej ys) ys (xs.foldl gX []) z1 (by simp at hp0; omega)
 unfold qF
 have q1:xa 3 (ab 0) bA (([some (ej xs),some (ej ys),none,none,none]:Ev).set 2 none) []=some (E5 (ej xs) (ej ys) z1,kvN (xs.foldl gX [])):=e1
 rw [q1]
 dsimp only
 have q2:xa 3 (ab 1) bB (E5 (ej xs) (ej ys) z1) (kvN (xs.foldl gX []))=some (E5 (ej xs) (ej ys) z2,kvN (mgd xs ys)):=e2
 rw [q2]
 dsimp only
 have q3:iH bz (E5 (ej xs) (ej ys) z2) (kvN (mgd xs ys))=some (.lst ((nr (mgd xs ys)).map enc)):=by
  unfold iH
  rw [show (kvN (mgd xs ys)).map (·.2)=(mgd xs ys).map enc by unfold kvN; rw [E_]; rfl,um (by omega)]
 unfold Ai
 rw [q3]
 dsimp only
 show bD _ _ [some (ej xs),some (ej ys),none,z2,some (.lst ((nr (mgd xs ys)).map enc))]=_
 rw [aw (dY ar rfl (Df (by rw [jA]; exact hl)))]
 rfl
def dM (ys:List Note) (a:Note):Note:=match ys.filter (fun b=>decide (key b=key a)) with
 | b :: _=>aX a b
 | []=>a
theorem a5 (a:Note):aX a a=a:=by unfold aX; split <;> rfl
theorem fP (ys:List Note) (a:Note):key (dM ys a)=key a:=by
 unfold dM
 split
 · rename_i b r h
   have hb:b∈ys.filter (fun b=>decide (key b=key a)):=by rw [h]; exact h_
   have:=(D_.mp hb).2
   rcases cE a b with e | e
   · rw [e]
   · rw [e]; simpa using this
 · rfl
theorem nv (ys:List Note) (a:Note):dM ys a=a∨dM ys a∈ys:=by
 unfold dM
 split
 · rename_i b r h
   have hb:b∈ys.filter (fun b=>decide (key b=key a)):=by rw [h]; exact h_
   rcases cE a b with e | e
   · exact .inl e
   · rw [e]; exact .inr (D_.mp hb).1
 · exact .inl rfl
theorem hasK_iff {l:List Note} {n:Note}:cY l n=true↔key n∈l.map key:=by
 unfold cY
 simp only [Kk,decide_eq_true_eq,m_]
theorem oy {l m:List Note} (h:l.map key=m.map key) (n:Note):cY l n=cY m n:=by
 rw [Fh,hasK_iff,hasK_iff,h]
theorem rD {ys:List Note} {a:Note} (h:key a ∉ ys.map key):ys.filter (fun b=>decide (key b=key a))=[]:=by
 rw [Iy]
 intro b hb hk
 exact h (m_.mpr ⟨b,hb,by simpa using hk⟩)
theorem bF {ys:List Note} {a:Note} (h:key a ∉ ys.map key):dM ys a=a:=by
 unfold dM
 rw [rD h]
theorem rE:∀ (xs l:List Note),((l ++ xs).map key).Nodup→xs.foldl gX l=l ++ xs
 | [],l,_=>by simp
 | n :: xs,l,h=>by
  have hn:cY l n=false:=by
   cases q:cY l n with
   | false=>rfl
   | true =>
    exfalso
    rw [hasK_iff] at q
    rw [y_,t_] at h
    exact (Gq.mp h).2.2 _ q _ h_ rfl
  show xs.foldl gX (gX l n)=_
  have e:gX l n=l ++ [n]:=by unfold gX; rw [hn]; rfl
  rw [e,rE xs (l ++ [n]) (by simpa using h)]
  simp
theorem rF {l:List Note} {n:Note} (h:key n ∉ l.map key):nq l n=none:=by
 unfold nq
 rw [HW]
 intro o ho hk
 exact h (m_.mpr ⟨o,ho,by simpa using hk⟩)
theorem eV {l:List Note} (nd:(l.map key).Nodup) {a b:Note} (ha:a∈l) (hb:b∈l) (h:key a=key b):a=b:=by
 induction l with
 | nil=>cases ha
 | cons x l ih =>
  rw [t_,Gf] at nd
  rcases pi.mp ha with rfl | ha'
  · rcases pi.mp hb with rfl | hb'
    · rfl
    · exact absurd (m_.mpr ⟨b,hb',h.symm⟩) nd.1
  · rcases pi.mp hb with rfl | hb'
    · exact absurd (m_.mpr ⟨a,ha',h⟩) nd.1
    · exact ih nd.2 ha' hb'
theorem mf:∀ (ys l:List Note),(ys.map key).Nodup→(l.map key).Nodup→ys.foldl rn l=l.map (dM ys) ++ bd ys l
 | [],l,_,_=>by
  have e:l.map (dM [])=l:=by rw [show (dM []:Note→Note)=id from rfl]; exact List.map_id l
  simp [bd,e]
 | n :: ys,l,hy,hl=>by
  rw [t_,Gf] at hy
  show ys.foldl rn (rn l n)=_
  by_cases hk:key n∈l.map key
  · have e:rn l n=l.map fun o=>if key o=key n then aX o n else o:=by
     obtain ⟨o0,ho0,hk0⟩:=m_.mp hk
     have hg:nq l n=some o0:=by
      cases q:nq l n with
      | none =>
       unfold nq at q
       rw [HW] at q
       exact absurd (by simpa using hk0) (q o0 ho0)
      | some o=>rw [eV hl (jw q).2 ho0 ((jw q).1.trans hk0.symm)]
     have h1:rm l n=aX o0 n:=by unfold rm; rw [hg]; rfl
     unfold rn gX
     rw [if_pos (by rw [hasK_iff,jx]; exact hk)]
     apply FQ
     intro o ho
     rw [jx]
     by_cases h:key o=key n
     · rw [if_pos h,if_pos h,h1,eV hl ho ho0 (h.trans hk0.symm)]
     · rw [if_neg h,if_neg h]
    have ek':(l.map fun o=>if key o=key n then aX o n else o).map key=l.map key:=by
     rw [E_]
     apply FQ
     intro o _
     simp only [HN]
     split
     · rename_i h
       rcases cE o n with q | q
       · rw [q]
       · rw [q,h]
     · rfl
    rw [e,mf ys _ hy.2 (by rw [ek']; exact hl),E_]
    congr 1
    · apply FQ
      intro o _
      simp only [HN]
      by_cases h:key o=key n
      · rw [if_pos h]
        have hl2:key (aX o n)=key n:=by
         rcases cE o n with q | q
         · rw [q,h]
         · rw [q]
        rw [bF (by rw [hl2]; exact hy.1)]
        unfold dM
        rw [Ie (by simp [h])]
      · rw [if_neg h]
        unfold dM
        rw [G6 (by simpa using GE h)]
    · have hn:cY l n=true:=hasK_iff.mpr hk
      show ys.filter _=(n :: ys).filter _
      rw [G6 (by simp [hn])]
      apply L9
      intro m _
      rw [oy ek' m]
  · have e:rn l n=l ++ [n]:=by
     have h1:rm l n=n:=by unfold rm; rw [rF hk]; exact a5 n
     have hn:cY l n=false:=by
      cases q:cY l n with
      | false=>rfl
      | true=>exact absurd (hasK_iff.mp q) hk
     unfold rn gX
     rw [h1,hn]
     rfl
    rw [e,mf ys _ hy.2 (by
     rw [y_]
     exact Gq.mpr ⟨hl,by simp,fun a ha b hb z=>by
      simp only [t_,Iw,EE] at hb
      exact hk (by rw [← hb,← z]; exact ha)⟩),y_,t_,Iw,bF hy.1]
    have hn:cY l n=false:=by
     cases q:cY l n with
     | false=>rfl
     | true=>exact absurd (hasK_iff.mp q) hk
    have e1:l.map (dM ys)=l.map (dM (n :: ys)):=by
     apply FQ
     intro o ho
     unfold dM
     rw [G6 (by
      simp only [decide_eq_true_eq]
      exact fun z=>hk (by rw [z]; exact m_.mpr ⟨o,ho,rfl⟩))]
    have e2:bd ys (l ++ [n])=bd ys l:=by
     apply L9
     intro m hm
     have:cY (l ++ [n]) m=cY l m:=by
      unfold cY
      rw [List.any_append]
      have:([n].any fun o=>decide (key o=key m))=false:=by
       simp only [F8,List.any_nil,LD,decide_eq_false_iff_not]
       exact fun z=>hy.1 (by rw [z]; exact m_.mpr ⟨m,hm,rfl⟩)
      rw [this,LD]
     rw [this]
    rw [e1,e2]
    show _=l.map (dM (n :: ys)) ++ (n :: ys).filter _
    rw [Ie (by simp [hn])]
    simp [bd]
theorem iK {xs ys:List Note} (hx:(xs.map key).Nodup) (hy:(ys.map key).Nodup):mgd xs ys=xs.map (dM ys) ++ bd ys xs:=by
 unfold mgd
 rw [rE xs [] (by simpa using hx),KQ,mf ys xs hy hx]
theorem iL {xs ys:List Note} (hx:(xs.map key).Nodup) (hy:(ys.map key).Nodup):((mgd xs ys).map key).Nodup:=by
 rw [iK hx hy,y_,E_]
 have e:xs.map (key ∘ dM ys)=xs.map key:=FQ fun a _=>fP ys a
 rw [e]
 refine Gq.mpr ⟨hx,Hh (IQ _ HI) hy,fun a ha b hb z=>?_⟩
 obtain ⟨n,hn,rfl⟩:=m_.mp hb
 have:=(D_.mp hn).2
 subst z
 rw [hasK_iff.mpr ha] at this
 cases this
theorem uo {xs ys:List Note} (hx:(xs.map key).Nodup) (hy:(ys.map key).Nodup) (gx:∀ n∈xs,Good n) (gy:∀ n∈ys,Good n):∀ n∈mgd xs ys,Good n:=by
 intro n hn
 rw [iK hx hy] at hn
 rcases A_.mp hn with h | h
 · obtain ⟨a,ha,rfl⟩:=m_.mp h
   rcases nv ys a with e | e
   · rw [e]; exact gx a ha
   · exact gy _ e
 · exact gy n (D_.mp h).1
theorem xF {xs ys:List Note} (hx:(xs.map key).Nodup) (hy:(ys.map key).Nodup):(mgd xs ys).length≤xs.length + ys.length:=by
 rw [iK hx hy,Fc,Ey]
 have:=fN (xs:=ys) (ys:=xs)
 omega
theorem dj (n:Note):au [enc n]=some (.ok (ek n)):=by simp [au,bR,du,bf,dk,bnd,aa,ag,ab,fC,f2,ixD,atD,cf,enc,ek]
theorem Be {xs:List Note} (hg:∀ o∈xs,Good o):neX (.lst (xs.map enc)) (.lst [])=bo (!xs.isEmpty):=by
 cases xs with
 | nil=>kernel_rfl
 | cons o rest =>
  have i2:=(qX hg).okP (by omega)
  have i3:okP (.lst [])=true:=by kernel_rfl
  unfold neX
  rw [show eqS (.lst ((o :: rest).map enc)) (.lst [])=none from rfl,i2,i3]
  simp [bp,toPys,EW,Gi]
structure LI (acc P:List Note):Prop where
 g:∀ n∈acc,Good n
 k:(acc.map key).Sublist (P.map key)
 m:(acc.map Note.md).Sublist (P.map Note.md)
theorem LI.skip {acc P:List Note} (h:LI acc P) (n:Note):LI acc (P ++ [n]):=by
 refine ⟨h.g,?_,?_⟩
 · rw [y_]; exact h.k.trans (JZ _ _)
 · rw [y_]; exact h.m.trans (JZ _ _)
theorem LI.add {acc P:List Note} (h:LI acc P) {n n':Note} (g:Good n') (hk:key n'=key n) (hm:n'.md=n.md):LI (acc ++ [n']) (P ++ [n]):=by
 refine ⟨fun x hx=>?_,?_,?_⟩
 · rcases A_.mp hx with q | q
   · exact h.g x q
   · rw [EE.mp q]; exact g
 · rw [y_,y_]
   refine h.k.append ?_
   simp [hk]
 · rw [y_,y_]
   refine h.m.append ?_
   simp [hm]
def EL (ns:List Int) (a:Int) (J:Dv) (z:Option Dv) (l:Option Dv):Ev:=[some (.scr ns),some (.int a),some J,none,none,z,none,l]
def us1 (n:Note):Note:={ n with us:=n.us + 1 }
theorem uq {n:Note} (g:Good n) (h:n.us≤39):Good (us1 n):=⟨g.nm,g.w,g.house,g.path,g.R,g.ends,g.mk0,by have:=g.mu; show n.md≤n.us + 1; omega,by show n.us + 1≤99; omega⟩
theorem Bf (ns:List Int) (hl:ns.length≤63) (a:Int) (J:Dv) {n:Note} (g:Good n) (hu:n.us≤39) (i:Nat) {acc P:List Note} (h:LI acc P) (hlen:acc.length < 1000) :
 ∃ ρ' z' acc',aC [some (.scr ns),some (.int a),some J,none,some (.int i),some (enc n),none,none] (acc.map enc)=some (.nx ρ' (acc'.map enc))∧fgt [4,6] ρ'=EL ns a J z' none∧LI acc' (P ++ [n])∧acc'.length≤acc.length + 1:=by
 obtain ⟨d,d0,d4,e⟩:=bb ns hl (a + i) 4 (by omega)
 have w6:(ae ac 3 (aa (ab 0) (aa (f2 bg (ab 1) (ab 4)) (aa (fC (.int 4)) ag)))) [some (.scr ns),some (.int a),some J,none,some (.int i),some (enc n),none,none]=some (.ok (.int d)):=qU ac rfl (b:=.int (a + i)) rfl rfl e
 unfold aC
 rw [di (qW w6 rfl)]
 simp only [GA,Gz]
 have cont:∀ n':Note,Good n'→key n'=key n→n'.md=n.md→∃ ρ' z' acc',oIf (fB (f2 gtD (ab 6) (fC (.int 0)))) (oF (ab 5)) rQ [some (.scr ns),some (.int a),some J,none,some (.int i),some (enc n'),some (.int d),none] (acc.map enc)=some (.nx ρ' (acc'.map enc))∧fgt [4,6] ρ'=EL ns a J z' none∧LI acc' (P ++ [n])∧acc'.length≤acc.length + 1:=by
  intro n' g' hk hm
  have hc:fB (f2 gtD (ab 6) (fC (.int 0))) [some (.scr ns),some (.int a),some J,none,some (.int i),some (enc n'),some (.int d),none]=some (.ok (decide (0 < d))):=rfl
  by_cases hd:0 < d
  · refine ⟨[some (.scr ns),some (.int a),some J,none,some (.int i),some (enc n'),some (.int d),none],some (enc n'),acc ++ [n'],?_,rfl,h.add g' hk hm,by simp⟩
    unfold oIf
    rw [hc,decide_eq_true hd]
    simp only [pL,if_true]
    unfold oF
    rw [if_pos (by simp; omega)]
    show some (Fo.nx _ (acc.map enc ++ [enc n']))=_
    rw [y_]
    rfl
  · refine ⟨[some (.scr ns),some (.int a),some J,none,some (.int i),some (enc n'),some (.int d),none],some (enc n'),acc,?_,rfl,h.skip n,by omega⟩
    unfold oIf
    rw [hc,decide_eq_false hd]
    rfl
 have hc1:fB (f2 eqX (ab 6) (fC (.int 1))) [some (.scr ns),some (.int a),some J,none,some (.int i),some (enc n),some (.int d),none]=some (.ok (d == 1)):=rfl
 by_cases h1:d=1
 · have w5:(f2 bg (iW (ab 5) lg (fD (fC (.int 9)))) (cf (aa (f2 bg (f2 ixD (ab 5) (fC (.int 9))) (fC (.int 1))) ag))) [some (.scr ns),some (.int a),some J,none,some (.int i),some (enc n),some (.int d),none]=some (.ok (enc (us1 n))):=rfl
   have q:oIf (fB (f2 eqX (ab 6) (fC (.int 1)))) (c7 5 (f2 bg (iW (ab 5) lg (fD (fC (.int 9)))) (cf (aa (f2 bg (f2 ixD (ab 5) (fC (.int 9))) (fC (.int 1))) ag)))) rQ [some (.scr ns),some (.int a),some J,none,some (.int i),some (enc n),some (.int d),none] (acc.map enc)=some (.nx [some (.scr ns),some (.int a),some J,none,some (.int i),some (enc (us1 n)),some (.int d),none] (acc.map enc)):=by
    unfold oIf
    rw [hc1,show (d == 1)=true by simp [h1]]
    simp only [pL,if_true]
    exact qW w5 rfl
   rw [di q]
   exact cont (us1 n) (uq g hu) rfl rfl
 · have q:oIf (fB (f2 eqX (ab 6) (fC (.int 1)))) (c7 5 (f2 bg (iW (ab 5) lg (fD (fC (.int 9)))) (cf (aa (f2 bg (f2 ixD (ab 5) (fC (.int 9))) (fC (.int 1))) ag)))) rQ [some (.scr ns),some (.int a),some J,none,some (.int i),some (enc n),some (.int d),none] (acc.map enc)=some (.nx [some (.scr ns),some (.int a),some J,none,some (.int i),some (enc n),some (.int d),none] (acc.map enc)):=by
    unfold oIf
    rw [hc1,show (d == 1)=false by simp [h1]]
    rfl
   rw [di q]
   exact cont n g rfl rfl
theorem vf (ns:List Int) (hl:ns.length≤63) (a:Int) (J:Dv):∀ (rest:List Note) (i:Nat) (ρ:Ev) (z:Option Dv) (acc P:List Note),(∀ n∈rest,Good n∧n.us≤39)→fgt [4,6] ρ=EL ns a J z none→LI acc P→acc.length + rest.length < 1000 →
 ∃ z' acc',i4 4 5 [4,6] aC (dW i (rest.map enc)) ρ (acc.map enc)=some (.nx (EL ns a J z' none) (acc'.map enc))∧LI acc' (P ++ rest)
 | [],i,ρ,z,acc,P,_,hρ,h,_=>⟨z,acc,by show some (Fo.nx (fgt [4,6] ρ) _)=_; rw [hρ],by simpa using h⟩
 | n :: rest,i,ρ,z,acc,P,hg,hρ,h,hlen=>by
  simp only [EG] at hlen
  obtain ⟨g,hu⟩:=hg n h_
  obtain ⟨ρ',z',acc',e,hρ',h',hl'⟩:=Bf ns hl a J g hu i h (by omega)
  obtain ⟨z2,acc2,e2,h2⟩:=vf ns hl a J rest (i + 1) ρ' z' acc' (P ++ [n]) (fun m hm=>hg m (k_ _ hm)) hρ' h' (by omega)
  refine ⟨z2,acc2,?_,by simpa using h2⟩
  show (match aC (((fgt [4,6] ρ).set 4 (some (.int i))).set 5 (some (enc n))) (acc.map enc) with
   | some (.nx ρ' xs')=>i4 4 5 [4,6] aC (dW (i + 1) (rest.map enc)) ρ' xs'
   | o=>o)=_
  rw [hρ]
  show (match aC [some (.scr ns),some (.int a),some J,none,some (.int i),some (enc n),none,none] (acc.map enc) with
   | some (.nx ρ' xs')=>i4 4 5 [4,6] aC (dW (i + 1) (rest.map enc)) ρ' xs'
   | o=>o)=_
  rw [e]
  exact e2
structure LM (B:Nat) (acc:List Note) (L:Int):Prop where
 g:∀ n∈acc,Good n
 s:acc.Pairwise fun a b=>a.md≤b.md
 k:(acc.map key).Nodup
 l:acc.length≤B
 m:∀ n∈acc,n.md≤L
theorem LM.add {B:Nat} {acc:List Note} {L:Int} (h:LM B acc L) {n:Note} (g:Good n) (hm:n.md=L) (hk:acc.filter (fun o=>decide (key o=key n))=[]):LM (B + 1) (acc ++ [n]) L:=by
 refine ⟨fun x hx=>?_,?_,?_,by have:=h.l; simp; omega,fun x hx=>?_⟩
 · rcases A_.mp hx with q | q
   · exact h.g x q
   · rw [EE.mp q]; exact g
 · refine Hw.mpr ⟨h.s,Kg ..,fun a ha b hb=>?_⟩
   rw [EE.mp hb,hm]
   exact h.m a ha
 · rw [y_]
   refine Gq.mpr ⟨h.k,by simp,fun a ha b hb e=>?_⟩
   obtain ⟨o,ho,rfl⟩:=m_.mp ha
   simp only [t_,Iw,EE] at hb
   have:o∈acc.filter (fun o=>decide (key o=key n)):=D_.mpr ⟨ho,by simp [e.trans hb]⟩
   rw [hk] at this
   cases this
 · rcases A_.mp hx with q | q
   · exact h.m x q
   · rw [EE.mp q,hm]; omega
def xG (n:Note) (L:Int):Note:={ n with ends:=none,md:=L,us:=L + 2 }
theorem rG {n:Note} (g:Good n) {L:Int} (h0:0≤L) (h1:L≤60):Good (xG n L):=⟨g.nm,g.w,g.house,g.path,g.R,(fun i hi=>nomatch hi),h0,by show L≤L + 2; omega,by show L + 2≤99; omega⟩
theorem Bg (ns:List Int) (a:Int) (J:Dv) {n:Note} (g:Good n) {L:Int} (h0:0≤L) (h1:L≤60) {B:Nat} {acc:List Note} (h:LM B acc L) (hB:B < 100) :
 ∃ acc',az (EL ns a J (some (enc n)) (some (.int L))) (acc.map enc)=some (.nx (EL ns a J (some (enc n)) (some (.int L))) (acc'.map enc))∧LM (B + 1) acc' L:=by
 have hlen:=h.l
 have e1:(ba [("_law_note",5)] (bP (ab 3)) (some (fB (f2 eqX (ae au 1 (aa (ab 0) ag)) (ae au 1 (aa (ab 1) ag))))) (ab 0)) ((EL ns a J (some (enc n)) (some (.int L))).set 3 (some (.lst (acc.map enc))))=some (.ok (.lst ((acc.filter (fun o=>decide (key o=key n))).map enc))) :=
  ca enc (fun o=>decide (key o=key n)) enc (jt rfl) (by omega) fun b hb=>⟨bC ((aP (x:=ek b) (y:=ek n) (cW au rfl (dj b)) (cW au rfl (dj n))).trans (AR (h.g b hb) g).1),rfl⟩
 have hc:(fB (f2 eqX (ba [("_law_note",5)] (bP (ab 3)) (some (fB (f2 eqX (ae au 1 (aa (ab 0) ag)) (ae au 1 (aa (ab 1) ag))))) (ab 0)) (c0 ag))) ((EL ns a J (some (enc n)) (some (.int L))).set 3 (some (.lst (acc.map enc))))=some (.ok (acc.filter (fun o=>decide (key o=key n))).isEmpty) :=
  bC ((aP e1 rfl).trans (nil_eq fun o ho=>h.g o (D_.mp ho).1))
 unfold az sP
 rw [hc]
 cases hf:acc.filter (fun o=>decide (key o=key n)) with
 | nil =>
  refine ⟨acc ++ [xG n L],?_,h.add (rG g h0 h1) rfl hf⟩
  have w:(f2 bg (f2 bg (f2 bg (iW (ab 5) lg (fD (fC (.int 5)))) (cf (aa (fC .non) ag))) (iW (ab 5) (fD (fC (.int 6))) (fD (fC (.int 8))))) (cf (aa (ab 7) (aa (f2 bg (ab 7) (fC (.int 2))) ag)))) (EL ns a J (some (enc n)) (some (.int L)))=some (.ok (enc (xG n L))):=rfl
  show oF _ _ _=_
  unfold oF
  rw [if_pos (by simp; omega),w,y_]
  rfl
 | cons c r =>
  refine ⟨acc,rfl,⟨h.g,h.s,h.k,by omega,h.m⟩⟩
theorem vg (ns:List Int) (a:Int) (J:Dv) {L:Int} (h0:0≤L) (h1:L≤60):∀ (xs:List Note) (ρ:Ev) (B:Nat) (acc:List Note),(∀ n∈xs,Good n)→fgt [5] ρ=EL ns a J none (some (.int L))→LM B acc L→B + xs.length < 100 →
 ∃ acc',gc 5 [5] az (xs.map enc) ρ (acc.map enc)=some (.nx (EL ns a J none (some (.int L))) (acc'.map enc))∧LM (B + xs.length) acc' L
 | [],ρ,B,acc,_,hρ,h,_=>⟨acc,by show some (Fo.nx (fgt [5] ρ) _)=_; rw [hρ],h⟩
 | n :: xs,ρ,B,acc,hg,hρ,h,hB=>by
  simp only [EG] at hB
  obtain ⟨acc',e,h'⟩:=Bg ns a J (hg n h_) h0 h1 h (by omega)
  obtain ⟨acc2,e2,h2⟩:=vg ns a J h0 h1 xs (EL ns a J (some (enc n)) (some (.int L))) (B + 1) acc' (fun m hm=>hg m (k_ _ hm)) rfl h' (by omega)
  refine ⟨acc2,?_,by rw [EG,show B + (xs.length + 1)=B + 1 + xs.length by omega]; exact h2⟩
  show (match az ((fgt [5] ρ).set 5 (some (enc n))) (acc.map enc) with
   | some (.nx ρ' xs')=>gc 5 [5] az (xs.map enc) ρ' xs'
   | o=>o)=_
  rw [hρ]
  show (match az (EL ns a J (some (enc n)) (some (.int L))) (acc.map enc) with
   | some (.nx ρ' xs')=>gc 5 [5] az (xs.map enc) ρ' xs'
   | o=>o)=_
  rw [e]
  exact e2
theorem kP:∀ (xs:List Note) (i:Nat),imms (dW i (xs.map enc))=true
 | [],_=>rfl
 | n :: xs,i=>by
  show (imm (.tup [.int i,enc n]) && imms (dW (i + 1) (xs.map enc)))=true
  rw [kP xs (i + 1)]
  simp [imm,imms,rA]
theorem xH (l:List Dv) (x:Dv):ixD (.lst (l ++ [x])) (.int (-1))=some (.ok x):=by
 have e:(-1 + ((l.length:Int) + 1)).toNat=l.length:=by omega
 have e1:(1:Int)≤(l.length:Int) + 1:=by omega
 simp [ixD,atD,e,e1]
theorem iM {α:Type} (l:List α):l=[]∨∃ i b,l=i ++ [b]:=by
 rcases List.eq_nil_or_concat l with h | ⟨i,b,h⟩
 · exact .inl h
 · exact .inr ⟨i,b,by rw [h,List.concat_eq_append]⟩
def eW (acc:List Note):Int:=match acc.getLast? with
 | some n=>n.md
 | none=>0
theorem xI {acc:List Note} (hg:∀ n∈acc,Good n) {ρ:Ev} (h:ρ[3]?=some (some (.lst (acc.map enc)))):(fIf (fB (f2 neX (ab 3) (c0 ag))) (f2 ixD (f2 ixD (ab 3) (f1 vV (fC (.int 1)))) (fC (.int 8))) (fC (.int 0))) ρ=some (.ok (.int (eW acc))):=by
 have hc:fB (f2 neX (ab 3) (c0 ag)) ρ=some (.ok (!acc.isEmpty)):=bC ((aP (x:=.lst (acc.map enc)) (y:=.lst []) (aQ h) rfl).trans (Be hg))
 unfold fIf
 rw [hc]
 rcases iM acc with rfl | ⟨l,b,rfl⟩
 · rfl
 · have e:(f2 ixD (f2 ixD (ab 3) (f1 vV (fC (.int 1)))) (fC (.int 8))) ρ=some (.ok (.int b.md)):=by
    refine (aP (x:=enc b) (y:=.int 8) ((aP (x:=.lst ((l ++ [b]).map enc)) (y:=.int (-1)) (aQ h) rfl).trans ?_) rfl).trans rfl
    rw [y_]
    exact xH _ _
   have e2:eW (l ++ [b])=b.md:=by unfold eW; simp
   rw [e2]
   simp only [bnd]
   rw [if_pos (by simp)]
   exact e
theorem xJ (ns:List Int) (hl:ns.length≤63) (a:Int) {js:List Note} {m:Nat} {now:Int} (J:JI m js now) (hm:m≤8):∃ os,b3 [.scr ns,.int a,ej js]=some (.ok (ej os))∧Jar os∧os.length≤m + 3:=by
 have jl:=J.l
 obtain ⟨z,acc,e1,L1⟩:=vf ns hl a (ej js) js 0 (EL ns a (ej js) none none) none [] [] (fun n hn=>⟨J.g n hn,J.u n hn⟩) rfl ⟨by simp,.slnil,.slnil⟩ (by simp; omega)
 rw [KQ] at L1
 have sm:(acc.map Note.md).Pairwise (·≤·):=by
  have h:(js.map Note.md).Pairwise (·≤·):=by rw [FY]; exact J.s
  exact List.Pairwise.sublist L1.m h
 have al:acc.length≤m:=by
  have:=L1.m.length_le
  simp at this
  omega
 have mb:∀ n∈acc,0≤n.md∧n.md≤39:=fun n hn=>by
  have:n.md∈js.map Note.md:=L1.m.subset (m_.mpr ⟨n,hn,rfl⟩)
  obtain ⟨o,ho,e⟩:=m_.mp this
  have h1:=J.u o ho
  have h2:=(J.g o ho).mu
  have h3:=(L1.g n hn).mk0
  omega
 have LM1:LM m acc (eW acc)∧0≤eW acc∧eW acc≤60:=by
  have s':acc.Pairwise fun a b=>a.md≤b.md:=by rw [FY] at sm; exact sm
  rcases iM acc with rfl | ⟨l,b,rfl⟩
  · exact ⟨⟨by simp,.nil,by simp,by simp,by simp⟩,by decide,by decide⟩
  · have e2:eW (l ++ [b])=b.md:=by unfold eW; simp
    have hb:=mb b (by simp)
    rw [e2]
    refine ⟨⟨L1.g,s',Hh L1.k J.k,al,fun n hn=>?_⟩,by omega,by omega⟩
    rcases A_.mp hn with q | q
    · exact (Hw.mp s').2.2 n q b (by simp)
    · rw [EE.mp q]; omega
 obtain ⟨LM1,b0,b1⟩:=LM1
 obtain ⟨j3,now3,e3,J3,l3,_⟩:=rf ns hl (a + 40) 3 (by omega)
 obtain ⟨os,e4,LM2⟩:=vg ns a (ej js) b0 b1 j3 (EL ns a (ej js) z (some (.int (eW acc)))) m acc J3.g rfl LM1 (by omega)
 have ol:=LM2.l
 refine ⟨os,?_,⟨LM2.g,fun i h=>GH.mp LM2.s i (i + 1) (by omega) h (by omega),LM2.k,by omega⟩,by omega⟩
 refine c6 (d:=ej os) ?_
 show bZ [some (.scr ns),some (.int a),some (ej js),none,none,none,none,none]=_
 unfold bZ uR
 simp only [ag,dk]
 rw [if_pos (by simp)]
 have f1:nR 4 5 [4,6] (fun ρ=>bnd ((aa (ab 2) ag) ρ) nY) aC (([some (.scr ns),some (.int a),some (ej js),none,none,none,none,none]:Ev).set 3 none) []=some (.nx (EL ns a (ej js) z none) (acc.map enc)):=by
  unfold nR
  rw [show (fun ρ=>bnd ((aa (ab 2) ag) ρ) nY) (([some (.scr ns),some (.int a),some (ej js),none,none,none,none,none]:Ev).set 3 none)=some (.ok (dW 0 (js.map enc))) from rfl]
  show (if imms (dW 0 (js.map enc))=true then _ else none)=_
  rw [if_pos (kP js 0)]
  exact e1
 have f2:lA 3 7 (fIf (fB (f2 neX (ab 3) (c0 ag))) (FD.f2 ixD (FD.f2 ixD (ab 3) (FD.f1 vV (fC (.int 1)))) (fC (.int 8))) (fC (.int 0))) (EL ns a (ej js) z none) (acc.map enc)=some (.nx (EL ns a (ej js) z (some (.int (eW acc)))) (acc.map enc)):=by
  unfold lA
  rw [xI L1.g rfl]
  rfl
 have f3:pM 5 [5] (bP (ae aL 3 (aa (ab 0) (aa (FD.f2 bg (ab 1) (fC (.int 40))) (aa (fC (.int 3)) ag))))) az (EL ns a (ej js) z (some (.int (eW acc)))) (acc.map enc)=some (.nx (EL ns a (ej js) none (some (.int (eW acc)))) (os.map enc)):=by
  unfold pM
  rw [show bP (ae aL 3 (aa (ab 0) (aa (FD.f2 bg (ab 1) (fC (.int 40))) (aa (fC (.int 3)) ag)))) (EL ns a (ej js) z (some (.int (eW acc))))=some (.ok (j3.map enc)) from l4 (qU aL rfl (b:=.int (a + 40)) rfl rfl e3)]
  show (if imms (j3.map enc)=true then _ else none)=_
  rw [if_pos (jz j3)]
  exact e4
 have f4:=di (g:=cR (lA 3 7 (fIf (fB (FD.f2 neX (ab 3) (c0 ag))) (FD.f2 ixD (FD.f2 ixD (ab 3) (FD.f1 vV (fC (.int 1)))) (fC (.int 8))) (fC (.int 0)))) (cR (pM 5 [5] (bP (ae aL 3 (aa (ab 0) (aa (FD.f2 bg (ab 1) (fC (.int 40))) (aa (fC (.int 3)) ag))))) az) (uQ 3 (fB1 fq (aa (ab 3) ag))))) f1
 rw [f4,di f2,di f3]
 rfl
theorem rH {α:Type} {R:α→α→Prop} (as:∀ a b,R a b→R b a→False):∀ {l m:List α},l.Perm m→l.Pairwise R→m.Pairwise R→l=m
 | [],m,hp,_,_=>hp.nil_eq
 | x :: l,[],hp,_,_=>by simpa using hp.length_eq
 | x :: l,y :: m,hp,h1,h2=>by
  rw [xy] at h1 h2
  have e:x=y:=by
   rcases pi.mp (hp.mem_iff.mp (h_ (a:=x))) with e | hx
   · exact e
   · rcases pi.mp (hp.mem_iff.mpr (h_ (a:=y))) with e | hy
     · exact e.symm
     · exact (as _ _ (h1.1 y hy) (h2.1 x hx)).elim
  subst e
  rw [rH as hp.cons_inv h1.2 h2.2]
theorem vh {α:Type} {lt:α→α→Bool} (tr:∀ a b c,lt a b=true→lt b c=true→lt a c=true) (x:α):∀ l:List α,(∀ y∈l,lt x y=true∨lt y x=true)→l.Pairwise (fun a b=>lt a b=true)→(jD (fun a b=>!lt b a) x l).Pairwise (fun a b=>lt a b=true)
 | [],_,_=>by simp [jD]
 | y :: l,hx,h=>by
  unfold jD
  rw [xy] at h
  split
  · rename_i hc
    have hxy:lt x y=true:=by
     rcases hx y h_ with q | q
     · exact q
     · rw [q] at hc; cases hc
    rw [xy,xy]
    refine ⟨fun z hz=>?_,h⟩
    rcases pi.mp hz with rfl | hz
    · exact hxy
    · exact tr _ _ _ hxy (h.1 z hz)
  · rename_i hc
    have hyx:lt y x=true:=by simpa using hc
    rw [xy]
    refine ⟨fun z hz=>?_,vh tr x l (fun z hz=>hx z (k_ _ hz)) h.2⟩
    rcases pi.mp ((c8 _ x l).mem_iff.mp hz) with rfl | hz
    · exact hyx
    · exact h.1 z hz
theorem mh {α:Type} {lt:α→α→Bool} (tr:∀ a b c,lt a b=true→lt b c=true→lt a c=true):∀ l:List α,l.Pairwise (fun a b=>lt a b=true∨lt b a=true)→(av (fun a b=>!lt b a) l).Pairwise (fun a b=>lt a b=true)
 | [],_=>.nil
 | x :: l,h=>by
  rw [xy] at h
  exact vh tr x _ (fun y hy=>h.1 y ((aj _ l).mem_iff.mp hy)) (mh tr l h.2)
theorem jB {α:Type} {le:α→α→Bool}:∀ {l:List α},l.Pairwise (fun a b=>le a b=true)→av le l=l
 | [],_=>rfl
 | x :: l,h=>by
  rw [xy] at h
  show jD le x (av le l)=x :: l
  rw [jB h.2]
  cases l with
  | nil=>rfl
  | cons y l =>
   unfold jD
   rw [if_pos (h.1 y h_)]
theorem rJ (a b:Note):ltL (l8 a) (l8 b)=eN (key a) (key b):=by
 have aux:∀ (ks js:List Str),ks.length=js.length→ltL (ks.map Dv.str) (js.map Dv.str)=eN ks js:=by
  intro ks
  induction ks with
  | nil=>intro js h; cases js <;> simp at h; rfl
  | cons k ks ih =>
   intro js h
   cases js with
   | nil=>simp at h
   | cons j js =>
    simp only [t_,ltL,eN,eqI,ltI,decide_eq_true_eq]
    rw [ih js (by simpa using h)]
 exact aux (key a) (key b) rfl
theorem vi {a b:Note} (h:key a≠key b):eN (key a) (key b)=true∨eN (key b) (key a)=true:=by
 cases q:eN (key a) (key b) with
 | true=>exact .inl rfl
 | false =>
  cases q2:eN (key b) (key a) with
  | true=>exact .inr rfl
  | false=>exact absurd (ls (xs:=key a) (ys:=key b) rfl q q2) h
theorem Bh {l:List Note} (nd:(l.map key).Nodup):l.Pairwise (fun a b=>key a≠key b):=by
 unfold List.Nodup at nd
 rw [FY] at nd
 exact nd
theorem vj (l:List Note):l.map ek=(l.map key).map fun k=>Dv.tup (k.map Dv.str):=by rw [E_]; rfl
theorem rK {xs:List Note} (nd:(xs.map key).Nodup):((av (fun a b=>!ltL (l8 b) (l8 a)) xs).map key).Pairwise (fun a b=>eN a b=true):=by
 rw [FY]
 have:=mh (lt:=fun a b=>ltL (l8 a) (l8 b)) (fun a b c h h'=>mT h h') xs ((Bh nd).imp fun {a b} h=>by rw [rJ,rJ]; exact vi h)
 exact this.imp fun {a b} h=>by rw [← rJ]; exact h
theorem cF {xs ys:List Note} (nx:(xs.map key).Nodup) (ny:(ys.map key).Nodup) (h:∀ k,k∈xs.map key↔k∈ys.map key):aO xs=aO ys:=by
 have p:(xs.map key).Perm (ys.map key):=by
  rw [Lv]
  intro a
  by_cases ha:a∈xs.map key
  · rw [nx.count,ny.count,if_pos ha,if_pos ((h a).1 ha)]
  · rw [nx.count,ny.count,if_neg ha,if_neg fun q=>ha ((h a).2 q)]
 have p2:((av (fun a b=>!ltL (l8 b) (l8 a)) xs).map key).Perm ((av (fun a b=>!ltL (l8 b) (l8 a)) ys).map key):=((aj _ xs).map key).trans (p.trans ((aj _ ys).map key).symm)
 have e:=rH (R:=fun a b=>eN a b=true) (fun a b h h'=>by have:=qh h h'; rw [mQ] at this; cases this) p2 (rK nx) (rK ny)
 unfold aO
 rw [vj,vj,e]
theorem rL {a b c:Note} (h:ltP a b=true) (h':ltP b c=true):ltP a c=true:=mT h h'
theorem vm (a:Note):ltP a a=false:=qk _
theorem rM (a b:Note):ltP a b=if a.md=b.md then eN (key a) (key b) else decide (a.md < b.md):=by
 have e1:aN [Dv.str a.nm,.str a.house,.str a.path]=some (key a):=rfl
 have e2:aN [Dv.str b.nm,.str b.house,.str b.path]=some (key b):=rfl
 unfold ltP ou ek
 simp only [ltL,eqI,ltI,e1,e2,beq_iff_eq]
 split
 · by_cases hk:key a=key b
   · simp [hk,mQ]
   · simp [hk]
 · rfl
theorem Bi {a b:Note} (h:key a≠key b):ltP a b=true∨ltP b a=true:=by
 rw [rM,rM]
 by_cases hm:a.md=b.md
 · rw [if_pos hm,if_pos hm.symm]; exact vi h
 · rw [if_neg hm,if_neg (GE hm)]
   rcases Int.lt_or_gt_of_ne hm with q | q
   · exact .inl (decide_eq_true q)
   · exact .inr (decide_eq_true q)
theorem vn {a b:Note} (h:ltP a b=true):a.md≤b.md:=by
 rw [rM] at h
 split at h
 · omega
 · have:=of_decide_eq_true h; omega
theorem mi {L:List Note} (nd:(L.map key).Nodup):(nr L).Pairwise (fun a b=>ltP a b=true):=mh (lt:=ltP) (fun a b c h h'=>rL h h') L ((Bh nd).imp fun {a b} h=>Bi h)
theorem rN {L M:List Note} (nl:(L.map key).Nodup) (nm:(M.map key).Nodup) (p:L.Perm M):nr L=nr M :=
 rH (R:=fun a b=>ltP a b=true) (fun a b h h'=>by have:=rL h h'; rw [vm] at this; cases this) ((aj _ L).trans (p.trans (aj _ M).symm)) (mi nl) (mi nm)
theorem xK {L:List Note} (h:L.Pairwise (fun a b=>ltP a b=true)):nr L=L:=jB (h.imp fun {a b} q=>by
 cases z:ltP b a with
 | false=>rfl
 | true=>have:=rL q z; rw [vm] at this; cases this)
def whole (xs ys:List Note):List Note:=nr (mgd xs ys)
theorem whole_mem {xs ys:List Note} {n:Note}:n∈whole xs ys↔n∈mgd xs ys:=(aj _ _).mem_iff
theorem cm {xs ys:List Note} (hx:(xs.map key).Nodup) (hy:(ys.map key).Nodup):((whole xs ys).map key).Nodup:=((aj _ (mgd xs ys)).map key).nodup_iff.mpr (iL hx hy)
theorem eC {xs ys:List Note} (hx:(xs.map key).Nodup) (hy:(ys.map key).Nodup):(whole xs ys).Pairwise (fun a b=>ltP a b=true):=mi (iL hx hy)
theorem gU {xs ys:List Note} (Jx:Jar xs) (Jy:Jar ys) (hl:xs.length + ys.length≤18):Jar (whole xs ys) :=
 ⟨fun n hn=>uo Jx.k Jy.k Jx.g Jy.g n (whole_mem.mp hn),fun i h=>vn (GH.mp (eC Jx.k Jy.k) i (i + 1) (by omega) h (by omega)),cm Jx.k Jy.k,by
  have h1:(whole xs ys).length=(mgd xs ys).length:=jA _
  have h2:=xF Jx.k Jy.k
  omega⟩
theorem ce {xs ys:List Note} (hx:(xs.map key).Nodup) (hy:(ys.map key).Nodup) (k:List Str):k∈(whole xs ys).map key↔k∈xs.map key∨k∈ys.map key:=by
 have e:k∈(whole xs ys).map key↔k∈(mgd xs ys).map key:=((aj _ (mgd xs ys)).map key).mem_iff
 rw [e,iK hx hy,y_,A_,E_,show xs.map (key ∘ dM ys)=xs.map key from FQ fun a _=>fP ys a]
 constructor
 · rintro (h | h)
   · exact .inl h
   · obtain ⟨n,hn,rfl⟩:=m_.mp h
     exact .inr (m_.mpr ⟨n,(D_.mp hn).1,rfl⟩)
 · rintro (h | h)
   · exact .inl h
   · obtain ⟨n,hn,rfl⟩:=m_.mp h
     by_cases q:key n∈xs.map key
     · exact .inl q
     · refine .inr (m_.mpr ⟨n,D_.mpr ⟨hn,?_⟩,rfl⟩)
       cases z:cY xs n with
       | false=>rfl
       | true=>exact absurd (hasK_iff.mp z) q
theorem rO:∀ {x y:List Int},lz x y=true→lz y x=false
 | a :: x,b :: y,h=>by
  unfold lz at h ⊢
  by_cases e:a=b
  · subst e
    rw [if_pos rfl] at h ⊢
    exact rO h
  · rw [if_neg e] at h
    rw [if_neg (GE e)]
    have:=of_decide_eq_true h
    exact decide_eq_false (by omega)
 | [],_,h=>by simp [lz] at h
 | _ :: _,[],h=>by simp [lz] at h
theorem xL (a b:Note):aX (aX a b) b=aX a b:=by
 rcases cE a b with e | e
 · rw [e,e]
 · rw [e,a5]
theorem xM (a b:Note):aX (aX a b) a=aX a b:=by
 cases h:lz (wl b) (wl a) with
 | true =>
  have e:aX a b=b:=by unfold aX; rw [if_pos h]
  rw [e]
  unfold aX
  rw [rO h]
  rfl
 | false =>
  have e:aX a b=a:=by unfold aX; rw [h]; rfl
  rw [e,a5]
theorem bO {ys:List Note} (nd:(ys.map key).Nodup) {a b:Note} (hb:b∈ys) (hk:key b=key a):dM ys a=aX a b:=by
 unfold dM
 split
 · rename_i c r h
   have hc:c∈ys.filter (fun b=>decide (key b=key a)):=by rw [h]; exact h_
   have h1:=D_.mp hc
   rw [eV nd h1.1 hb (by rw [hk]; simpa using h1.2)]
 · rename_i h
   have:b∈ys.filter (fun b=>decide (key b=key a)):=D_.mpr ⟨hb,by simp [hk]⟩
   rw [h] at this
   cases this
section
variable {xs ys:List Note} (hx:(xs.map key).Nodup) (hy:(ys.map key).Nodup)
include hx hy
theorem eX {n:Note}:n∈mgd xs ys↔(∃ a∈xs,dM ys a=n)∨(n∈ys∧key n ∉ xs.map key):=by
 rw [iK hx hy,A_,m_]
 refine or_congr M6 ?_
 unfold bd
 rw [D_]
 refine and_congr M6 ?_
 rw [← hasK_iff]
 simp
theorem Bj {w:Note} (h:w∈mgd xs ys):dM ys w=w:=by
 rcases (eX hx hy).mp h with ⟨a,ha,rfl⟩ | ⟨hw,_⟩
 · by_cases hk:key a∈ys.map key
   · obtain ⟨b,hb,e⟩:=m_.mp hk
     rw [bO hy hb (a:=dM ys a) (by rw [fP]; exact e),bO hy hb e,xL]
   · rw [bF hk,bF hk]
 · rw [bO hy hw rfl,a5]
theorem Bk {w:Note} (h:w∈mgd xs ys):dM xs w=w:=by
 rcases (eX hx hy).mp h with ⟨a,ha,rfl⟩ | ⟨hw,hn⟩
 · rw [bO hx ha (a:=dM ys a) (by rw [fP])]
   by_cases hk:key a∈ys.map key
   · obtain ⟨b,hb,e⟩:=m_.mp hk
     rw [bO hy hb e,xM]
   · rw [bF hk,a5]
 · exact bF hn
end
theorem bS {A B:List Note} (k:List Str):k∈(bd A B).map key↔k∈A.map key∧k ∉ B.map key:=by
 unfold bd
 constructor
 · intro h
   obtain ⟨n,hn,rfl⟩:=m_.mp h
   rw [D_] at hn
   refine ⟨m_.mpr ⟨n,hn.1,rfl⟩,fun q=>?_⟩
   have:=hn.2
   rw [hasK_iff.mpr q] at this
   cases this
 · rintro ⟨h1,h2⟩
   obtain ⟨n,hn,rfl⟩:=m_.mp h1
   refine m_.mpr ⟨n,D_.mpr ⟨hn,?_⟩,rfl⟩
   cases q:cY B n with
   | false=>rfl
   | true=>exact absurd (hasK_iff.mp q) h2
theorem eY {A B:List Note} (h:(A.map key).Nodup):((bd A B).map key).Nodup:=Hh (IQ _ HI) h
theorem vo {A B:List Note} (h:(A.map key).Nodup):((unN A B).map key).Nodup:=Hh (IQ _ HI) h
theorem hasN_iff {l:List Note} {n:Note}:uj l n=true↔n∈l:=by
 unfold uj
 simp
theorem unN_mem {A B:List Note} {a:Note}:a∈unN A B↔a∈A∧key a∈B.map key∧a ∉ B:=by
 unfold unN
 rw [D_,on,hasK_iff]
 refine and_congr M6 (and_congr M6 ?_)
 rw [← hasN_iff]
 simp
theorem jC {A B:List Note} (h:∀ k∈A.map key,k∈B.map key):bd A B=[]:=by
 rw [IP]
 intro n hn
 have:=(bS (A:=A) (B:=B) (key n)).mp (m_.mpr ⟨n,hn,rfl⟩)
 exact this.2 (h _ this.1)
theorem ur (A:List Note):unN A A=[]:=by
 rw [IP]
 intro n hn
 have:=unN_mem.mp hn
 exact this.2.2 this.1
theorem ut:aO []=.lst []:=rfl
theorem again {W zs:List Note} (hW:(W.map key).Nodup) (hz:(zs.map key).Nodup) (hs:W.Pairwise (fun a b=>ltP a b=true)) (hb:∀ w∈W,dM zs w=w) (hk:∀ k∈zs.map key,k∈W.map key):whole W zs=W:=by
 unfold whole
 rw [iK hW hz,jC hk,Ja,(FQ hb).trans (List.map_id W),xK hs]
section
variable {xs ys:List Note} (hx:(xs.map key).Nodup) (hy:(ys.map key).Nodup)
include hx hy
theorem xN:whole (whole xs ys) ys=whole xs ys:=again (cm hx hy) hy (eC hx hy) (fun w hw=>Bj hx hy (whole_mem.mp hw)) fun k hk=>(ce hx hy k).mpr (.inr hk)
theorem xO:whole (whole xs ys) xs=whole xs ys:=again (cm hx hy) hx (eC hx hy) (fun w hw=>Bk hx hy (whole_mem.mp hw)) fun k hk=>(ce hx hy k).mpr (.inl hk)
theorem xP:whole (whole xs ys) []=whole xs ys:=again (cm hx hy) (by simp) (eC hx hy) (fun w hw=>rfl) (by simp)
theorem Bl:aO (unN ys xs)=aO (unN xs ys):=by
 have aux:∀ {A B:List Note},(A.map key).Nodup→(B.map key).Nodup→∀ k,k∈(unN A B).map key→k∈(unN B A).map key:=by
  intro A B hA hB k h
  obtain ⟨a,ha,rfl⟩:=m_.mp h
  obtain ⟨h1,h2,h3⟩:=unN_mem.mp ha
  obtain ⟨b,hb,e⟩:=m_.mp h2
  refine m_.mpr ⟨b,unN_mem.mpr ⟨hb,?_,fun q=>?_⟩,e⟩
  · rw [e]; exact m_.mpr ⟨a,h1,rfl⟩
  · exact h3 (by rw [← eV hA q h1 e]; exact hb)
 exact cF (vo hy) (vo hx) fun k=>⟨aux hy hx k,aux hx hy k⟩
theorem rP:aO (bd (whole xs ys) xs)=aO (bd ys xs):=cF (eY (cm hx hy)) (eY hy) fun k=>by
 rw [bS,bS,ce hx hy]
 constructor
 · rintro ⟨h | h,h2⟩
   · exact absurd h h2
   · exact ⟨h,h2⟩
 · rintro ⟨h,h2⟩
   exact ⟨.inr h,h2⟩
theorem oz:aO (bd (whole xs ys) ys)=aO (bd xs ys):=cF (eY (cm hx hy)) (eY hx) fun k=>by
 rw [bS,bS,ce hx hy]
 constructor
 · rintro ⟨h | h,h2⟩
   · exact ⟨h,h2⟩
   · exact absurd h h2
 · rintro ⟨h,h2⟩
   exact ⟨.inl h,h2⟩
theorem uu {a:Note} (h:a∈unN xs (whole xs ys)):a∈unN xs ys:=by
 obtain ⟨h1,_,h3⟩:=unN_mem.mp h
 have hb:dM ys a∈whole xs ys:=whole_mem.mpr ((eX hx hy).mpr (.inl ⟨a,h1,rfl⟩))
 have hne:dM ys a≠a:=fun e=>h3 (by rw [← e]; exact hb)
 have hk:key a∈ys.map key:=JD fun q=>hne (bF q)
 obtain ⟨b,hb2,e⟩:=m_.mp hk
 refine unN_mem.mpr ⟨h1,hk,fun q=>?_⟩
 have:b=a:=eV hy hb2 q e
 subst this
 exact hne (by rw [bO hy hb2 rfl,a5])
theorem uv {w:Note} (h:w∈whole xs ys):w∈xs∨w∈ys:=by
 rcases (eX hx hy).mp (whole_mem.mp h) with ⟨a,ha,rfl⟩ | ⟨hw,_⟩
 · rcases nv ys a with e | e
   · rw [e]; exact .inl ha
   · exact .inr e
 · exact .inr hw
theorem oA (hu:unN xs ys=[]):whole ys xs=whole xs ys:=by
 have same:∀ a∈xs,∀ b∈ys,key b=key a→b=a:=fun a ha b hb e=>by
  have:a∈ys:=JD fun q=>by
   have:a∈unN xs ys:=unN_mem.mpr ⟨ha,m_.mpr ⟨b,hb,e⟩,q⟩
   rw [hu] at this
   cases this
  exact eV hy hb this e
 have bx:∀ a∈xs,dM ys a=a:=fun a ha=>by
  by_cases hk:key a∈ys.map key
  · obtain ⟨b,hb,e⟩:=m_.mp hk
    rw [bO hy hb e,same a ha b hb e,a5]
  · exact bF hk
 have byy:∀ b∈ys,dM xs b=b:=fun b hb=>by
  by_cases hk:key b∈xs.map key
  · obtain ⟨a,ha,e⟩:=m_.mp hk
    rw [bO hx ha e,same a ha b hb e.symm,a5]
  · exact bF hk
 refine rN (iL hy hx) (iL hx hy) ?_
 have nk:∀ {l:List Note},(l.map key).Nodup→l.Nodup:=fun {l} h=>by
  unfold List.Nodup at h ⊢
  rw [FY] at h
  exact h.imp fun q z=>q (by rw [z])
 rw [Lv]
 have mm:∀ n,n∈mgd ys xs↔n∈mgd xs ys:=fun n=>by
  rw [eX hx hy,eX hy hx]
  constructor
  · rintro (⟨b,hb,rfl⟩ | ⟨ha,hn⟩)
    · rw [byy b hb]
      by_cases hk:key b∈xs.map key
      · obtain ⟨a,ha,e⟩:=m_.mp hk
        exact .inl ⟨a,ha,by rw [bx a ha,same a ha b hb e.symm]⟩
      · exact .inr ⟨hb,hk⟩
    · exact .inl ⟨n,ha,bx n ha⟩
  · rintro (⟨a,ha,rfl⟩ | ⟨hb,hn⟩)
    · rw [bx a ha]
      by_cases hk:key a∈ys.map key
      · obtain ⟨b,hb,e⟩:=m_.mp hk
        exact .inl ⟨b,hb,by rw [byy b hb,same a ha b hb e]⟩
      · exact .inr ⟨ha,hk⟩
    · exact .inl ⟨n,hb,byy n hb⟩
 intro n
 have n1:=nk (iL hy hx)
 have n2:=nk (iL hx hy)
 by_cases ha:n∈mgd ys xs
 · rw [n1.count,n2.count,if_pos ha,if_pos ((mm n).1 ha)]
 · rw [n1.count,n2.count,if_neg ha,if_neg fun q=>ha ((mm n).2 q)]
end
def sK (xs:List Note):List Note:=av (fun a b=>!ltL (l8 b) (l8 a)) xs
theorem xQ (xs:List Note):aO xs=.lst ((sK xs).map ek):=rfl
theorem sK_mem {xs:List Note} {n:Note}:n∈sK xs↔n∈xs:=(aj _ _).mem_iff
theorem iN (xs:List Note):(sK xs).length=xs.length:=(aj _ _).length_eq
theorem nz {xs:List Note} (k:List Str):k∈(sK xs).map key↔k∈xs.map key:=((aj _ xs).map key).mem_iff
theorem Bm {xs:List Note} (h:(xs.map key).Nodup):((sK xs).map key).Nodup:=((aj _ xs).map key).nodup_iff.mpr h
theorem DK:neX (.lst []) (.lst [])=some (.ok (.bl false)):=by kernel_rfl
theorem kQ {xs ys:List Note} (Jx:Jar xs) (Jy:Jar ys) (hl:(whole xs ys).length≤20):aD [ej xs,ej ys]=some (.ok (ej (whole xs ys))):=rB Jx Jy (by rw [← jA]; exact hl)
theorem Bn (a b c:Dv):ixD (.tup [a,b,c]) (.int 0)=some (.ok a)∧ixD (.tup [a,b,c]) (.int 1)=some (.ok b)∧ixD (.tup [a,b,c]) (.int 2)=some (.ok c):=⟨rfl,rfl,rfl⟩
section
variable {js os:List Note} (J:Jar js) (O:Jar os) (hl:js.length + os.length≤18)
include J O hl
theorem uw:dh [ej js,ej os,ej (whole js os),aO (unN js os)]=bo true:=by
 have W:=gU J O hl
 have lW:=W.l
 have lJ:=J.l
 have JN:Jar []:=⟨by simp,fun i h=>by simp at h,by simp,by simp⟩
 refine c6 (d:=.bl true) ?_
 show bN [some (ej js),some (ej os),some (ej (whole js os)),some (aO (unN js os))]=_
 unfold bN
 have one:∀ {zs:List Note} {f:FnE} {ρ:Ev},Jar zs→whole (whole js os) zs=whole js os→f ρ=some (.ok (ej zs))→ρ[2]?=some (some (ej (whole js os)))→fB (f2 neX (ae aD 2 (aa (ab 2) (aa f ag))) (ab 2)) ρ=some (.ok false):=fun {zs f ρ} Z e hf h2 =>
  bC ((aP (x:=ej (whole js os)) (y:=ej (whole js os)) (fZ aD (aQ h2) hf ((kQ W Z (by rw [e]; omega)).trans (by rw [e]))) (aQ h2)).trans (jv (AS W.g) (by omega)))
 have q:(bOr (fB (f2 neX (ae aD 2 (aa (ab 2) (aa (ab 1) ag))) (ab 2))) (bOr (fB (f2 neX (ae aD 2 (aa (ab 2) (aa (ab 0) ag))) (ab 2))) (fB (f2 neX (ae aD 2 (aa (ab 2) (aa (cf ag) ag))) (ab 2))))) [some (ej js),some (ej os),some (ej (whole js os)),some (aO (unN js os))]=some (.ok false):=by
  rw [sI (one O (xN J.k O.k) rfl rfl),sI (one J (xO J.k O.k) rfl rfl)]
  exact one JN (xP J.k O.k) rfl rfl
 rw [aw (aV q)]
 refine eK ?_
 have ul:=rj (xs:=js) (ys:=whole js os)
 have ge:∀ n∈sK (unN js (whole js os)),Good n:=fun n hn=>fL J.g n (sK_mem.mp hn)
 have gu:∀ n∈sK (unN js os),Good n:=fun n hn=>fL J.g n (sK_mem.mp hn)
 have e:=ca (cs:=[("_law_others",3)]) (src:=bP (f2 ixD (ae aA 2 (aa (ab 0) (aa (ab 2) ag))) (fC (.int 2)))) (tst:=fB (f2 bu (ab 0) (ab 1))) (elt:=ab 0) (ρ:=[some (ej js),some (ej os),some (ej (whole js os)),some (aO (unN js os))]) ek (fun n=>!cY (sK (unN js os)) n) ek (l:=sK (unN js (whole js os)))
  (by
    have h:=(aP (g:=ixD) (x:=chg js (whole js os)) (y:=.int 2) (fZ aA (f:=ab 0) (g:=ab 2) (ρ:=[some (ej js),some (ej os),some (ej (whole js os)),some (aO (unN js os))]) rfl rfl (bT J W)) (show fC (.int 2) _=_ from rfl)).trans (Bn _ _ _).2.2
    unfold bP
    rw [h]
    rfl) (by rw [iN]; omega) fun n hn=>⟨bC ((aP (x:=ek n) (y:=aO (unN js os)) rfl rfl).trans (Bu gu (ge n hn)).2),rfl⟩
 have f0:(sK (unN js (whole js os))).filter (fun n=>!cY (sK (unN js os)) n)=[]:=by
  rw [Iy]
  intro n hn
  have:cY (sK (unN js os)) n=true:=hasK_iff.mpr (m_.mpr ⟨n,sK_mem.mpr (uu J.k O.k (sK_mem.mp hn)),rfl⟩)
  simp [this]
 rw [f0] at e
 exact (aP (x:=.lst []) (y:=.lst []) e rfl).trans (by kernel_rfl)
def EC (ns:List Int) (js os:List Note) (a b c d e f g:Option Dv):Ev:=[some (.scr ns),some (ej js),some (ej os),a,b,c,d,e,f,g]
theorem Bo (ns:List Int):∃ ρ',gR (EC ns js os none none none none none none none)=some (.nx ρ')∧fgt [2,3,4,5,6,7,8,9] ρ'=[some (.scr ns),some (ej js),none,none,none,none,none,none,none,none]:=by
 have W:=gU J O hl
 have lW:=W.l
 have lJ:=J.l
 have lO:=O.l
 unfold gR
 have w1:lP (EC ns js os none none none none none none none)=some (.ok (chg js os)):=fZ aA rfl rfl (bT J O)
 rw [aw (wj (ρ':=EC ns js os (some (aO (bd js os))) (some (aO (bd os js))) (some (aO (unN js os))) none none none none) w1 rfl rfl)]
 have q2:lQ (EC ns js os (some (aO (bd js os))) (some (aO (bd os js))) (some (aO (unN js os))) none none none none)=some (.ok false) :=
  bC ((aP (x:=chg os js) (y:=chg os js) (fZ aA rfl rfl (bT O J)) ((li (ao rfl (ao rfl (ao rfl aK))) (show 3≤100000 by omega)).trans (by unfold chg; rw [Bl J.k O.k]))).trans (jv (AZ O.g J.g) (by omega)))
 rw [aw (aV q2)]
 have w2:lR (EC ns js os (some (aO (bd js os))) (some (aO (bd os js))) (some (aO (unN js os))) none none none none)=some (.ok (.lst (js.map ek))):=gS enc ek (gT rfl) (by omega) fun n _=>cW au rfl (dj n)
 rw [aw (bU (ρ':=EC ns js os (some (aO (bd js os))) (some (aO (bd os js))) (some (aO (unN js os))) (some (.lst (js.map ek))) none none none) w2 rfl)]
 have w3:lS (EC ns js os (some (aO (bd js os))) (some (aO (bd os js))) (some (aO (unN js os))) (some (.lst (js.map ek))) none none none)=some (.ok (.lst (os.map ek))):=cD dj (by omega) rfl
 rw [aw (bU (ρ':=EC ns js os (some (aO (bd js os))) (some (aO (bd os js))) (some (aO (unN js os))) (some (.lst (js.map ek))) (some (.lst (os.map ek))) none none) w3 rfl)]
 have nl:=fN (xs:=js) (ys:=os)
 have nl2:=fN (xs:=os) (ys:=js)
 have q3:lT (EC ns js os (some (aO (bd js os))) (some (aO (bd os js))) (some (aO (unN js os))) (some (.lst (js.map ek))) (some (.lst (os.map ek))) none none)=some (.ok false):=by
  have e:=ca (cs:=[("_law_yours",7)]) (src:=bP (ab 6)) (tst:=fB (f2 inX (ab 0) (ab 1))) (elt:=ab 0) (ρ:=EC ns js os (some (aO (bd js os))) (some (aO (bd os js))) (some (aO (unN js os))) (some (.lst (js.map ek))) (some (.lst (os.map ek))) none none) ek (fun n=>cY os n) ek (jt rfl) (by omega) fun n hn=>⟨bC ((aP (x:=ek n) (y:=.lst (os.map ek)) rfl rfl).trans (Bu O.g (J.g n hn)).1),rfl⟩
  have fl:=Hr (fun n=>cY os n) js
  have a1:bg (aO (bd js os)) (.lst ((js.filter fun n=>cY os n).map ek))=some (.ok (.lst ((sK (bd js os) ++ js.filter fun n=>cY os n).map ek))):=by
   show (if ((sK (bd js os)).map ek).length + ((js.filter fun n=>cY os n).map ek).length≤100000 then some (Rs.ok (Dv.lst ((sK (bd js os)).map ek ++ (js.filter fun n=>cY os n).map ek))) else none)=_
   rw [if_pos (by simp only [Ey,iN]; omega),y_]
  have e1:aO (sK (bd js os) ++ js.filter fun n=>cY os n)=aO js:=by
   have ff:∀ k,k∈(js.filter fun n=>cY os n).map key↔k∈js.map key∧k∈os.map key:=fun k=>by
    constructor
    · intro h
      obtain ⟨n,hn,rfl⟩:=m_.mp h
      rw [D_] at hn
      exact ⟨m_.mpr ⟨n,hn.1,rfl⟩,hasK_iff.mp hn.2⟩
    · rintro ⟨h1,h2⟩
      obtain ⟨n,hn,rfl⟩:=m_.mp h1
      exact m_.mpr ⟨n,D_.mpr ⟨hn,hasK_iff.mpr h2⟩,rfl⟩
   refine cF ?_ J.k fun k=>?_
   · rw [y_]
     refine Gq.mpr ⟨Bm (eY J.k),Hh (IQ _ HI) J.k,fun a ha b hb z=>?_⟩
     subst z
     exact ((bS a).mp ((nz a).mp ha)).2 ((ff a).mp hb).2
   · rw [y_,A_,nz,bS,ff]
     constructor
     · rintro (h | h)
       · exact h.1
       · exact h.1
     · intro h
       by_cases q:k∈os.map key
       · exact .inr ⟨h,q⟩
       · exact .inl ⟨h,q⟩
  exact bC ((aP (x:=aO js) (y:=aO js) ((cg (ao ((aP (x:=aO (bd js os)) rfl e).trans a1) aK)).trans ((bc (by simp only [Fc,iN]; omega)).trans (by rw [e1]))) ((cg (ao (x:=.lst (js.map ek)) rfl aK)).trans (bc (by omega)))).trans (jv (cb J.g) (by omega)))
 rw [aw (aV q3)]
 have w4:lU (EC ns js os (some (aO (bd js os))) (some (aO (bd os js))) (some (aO (unN js os))) (some (.lst (js.map ek))) (some (.lst (os.map ek))) none none)=some (.ok (ej (whole js os))):=fZ aD rfl rfl (kQ J O (by omega))
 rw [aw (bU (ρ':=EC ns js os (some (aO (bd js os))) (some (aO (bd os js))) (some (aO (unN js os))) (some (.lst (js.map ek))) (some (.lst (os.map ek))) (some (ej (whole js os))) none) w4 rfl)]
 obtain ⟨ρ,hρ⟩:∃ ρ,ρ=EC ns js os (some (aO (bd js os))) (some (aO (bd os js))) (some (aO (unN js os))) (some (.lst (js.map ek))) (some (.lst (os.map ek))) (some (ej (whole js os))) none:=⟨_,rfl⟩
 have h1:ρ[1]?=some (some (ej js)):=by rw [hρ]; rfl
 have h2:ρ[2]?=some (some (ej os)):=by rw [hρ]; rfl
 have h3:ρ[3]?=some (some (aO (bd js os))):=by rw [hρ]; rfl
 have h4:ρ[4]?=some (some (aO (bd os js))):=by rw [hρ]; rfl
 have h5:ρ[5]?=some (some (aO (unN js os))):=by rw [hρ]; rfl
 have h6:ρ[6]?=some (some (.lst (js.map ek))):=by rw [hρ]; rfl
 have h8:ρ[8]?=some (some (ej (whole js os))):=by rw [hρ]; rfl
 rw [← hρ]
 have q4:lV ρ=some (.ok false):=lh (bC (cW cP (aQ h8) (rh W)))
 rw [aw (aV q4)]
 have q5:lX ρ=some (.ok false):=by
  have a1:bg (.lst (js.map ek)) (aO (bd os js))=some (.ok (.lst ((js ++ sK (bd os js)).map ek))):=by
   show (if (js.map ek).length + ((sK (bd os js)).map ek).length≤100000 then some (Rs.ok (Dv.lst (js.map ek ++ (sK (bd os js)).map ek))) else none)=_
   rw [if_pos (by simp only [Ey,iN]; omega),y_]
  have e1:aO (js ++ sK (bd os js))=aO (whole js os):=by
   refine cF ?_ (cm J.k O.k) fun k=>?_
   · rw [y_]
     refine Gq.mpr ⟨J.k,Bm (eY O.k),fun a ha b hb z=>?_⟩
     subst z
     exact ((bS a).mp ((nz a).mp hb)).2 ha
   · rw [y_,A_,nz,bS,ce J.k O.k]
     constructor
     · rintro (h | h)
       · exact .inl h
       · exact .inr h.1
     · rintro (h | h)
       · exact .inl h
       · by_cases q:k∈js.map key
         · exact .inl q
         · exact .inr ⟨h,q⟩
  exact bC ((aP (x:=aO (whole js os)) (y:=aO (whole js os)) ((cg (ao (cD dj (by omega) h8) aK)).trans (bc (by omega))) ((cg (ao ((aP (aQ h6) (aQ h4)).trans a1) aK)).trans ((bc (by simp only [Fc,iN]; omega)).trans (by rw [e1])))).trans (jv (cb W.g) (by omega)))
 rw [aw (aV q5)]
 have q6:lY ρ=some (.ok false):=by
  have hc:∀ d,(oE [("_law_jar_here",1),("_law_other",2)] ρ).set 0 (some d)=[some d,some (ej js),some (ej os)]:=fun d=>by simp [oE,h1,h2]
  have e:=ca (cs:=[("_law_jar_here",1),("_law_other",2)]) (src:=bP (ab 8)) (tst:=oD (fB (f2 bu (ab 0) (ab 1))) (fB (f2 bu (ab 0) (ab 2)))) (elt:=ab 0) (ρ:=ρ) enc (fun n=>!uj js n && !uj os n) enc (gT h8) (by omega) fun n hn=>⟨by
   rw [hc]
   exact ri (bC ((aP (x:=enc n) (y:=ej js) rfl rfl).trans (De J.g (W.g n hn)))) (bC ((aP (x:=enc n) (y:=ej os) rfl rfl).trans (De O.g (W.g n hn)))),by rw [hc]; rfl⟩
  have f0:(whole js os).filter (fun n=>!uj js n && !uj os n)=[]:=by
   rw [Iy]
   intro n hn
   rcases uv J.k O.k hn with q | q
   · simp [hasN_iff.mpr q]
   · simp [hasN_iff.mpr q]
  rw [f0] at e
  exact bC ((aP (x:=.lst []) (y:=.lst []) e rfl).trans DK)
 rw [aw (aV q6)]
 have ch:∀ {zs us:List Note} {i j:Nat} (k:Int) (d:Dv),Jar zs→Jar us→ρ[i]?=some (some (ej zs))→ρ[j]?=some (some (ej us))→ixD (chg zs us) (.int k)=some (.ok d)→f2 ixD (ae aA 2 (aa (ab i) (aa (ab j) ag))) (fC (.int k)) ρ=some (.ok d):=fun {zs us i j} k d Z U hi hj e =>
  (aP (x:=chg zs us) (y:=.int k) (fZ aA (aQ hi) (aQ hj) (bT Z U)) rfl).trans e
 have q7:jn ρ=some (.ok false):=by
  have n0:bd js (whole js os)=[]:=jC fun k hk=>(ce J.k O.k k).mpr (.inl hk)
  have a:=ch 0 (aO (bd js (whole js os))) J W h1 h8 rfl
  rw [n0,ut] at a
  have b:=ch 1 (aO (bd (whole js os) js)) J W h1 h8 rfl
  rw [rP J.k O.k] at b
  unfold jn
  rw [sI (bC ((aP a (show c0 ag ρ=some (.ok (.lst [])) from rfl)).trans DK))]
  exact bC ((aP b (aQ h4)).trans (jv (cb (eA O.g)) (by omega)))
 rw [aw (aV q7)]
 have q8:jo ρ=some (.ok false):=by
  have b:=ch 1 (aO (bd (whole js os) os)) O W h2 h8 rfl
  rw [oz J.k O.k] at b
  unfold jo
  rw [sI (bC ((aP b (aQ h3)).trans (jv (cb (eA J.g)) (by omega))))]
  exact lh (bC (fF (ao (aQ h1) (ao (aQ h2) (ao (aQ h8) (ao (aQ h5) aK)))) rfl (uw J O hl)))
 rw [aw (aV q8)]
 have q9:jp ρ=some (.ok false):=by
  unfold jp
  by_cases hu:unN js os=[]
  · have e0:fB (f2 eqX (ab 5) (c0 ag)) ρ=some (.ok true):=bC ((aP (x:=.lst []) (y:=.lst []) ((aQ h5).trans (by rw [hu]; rfl)) rfl).trans (by kernel_rfl))
    rw [zm e0]
    have sw:=oA J.k O.k hu
    exact bC ((aP (x:=ej (whole js os)) (y:=ej (whole js os)) (fZ aD (aQ h2) (aQ h1) ((kQ O J (by rw [sw]; omega)).trans (by rw [sw]))) (aQ h8)).trans (jv (AS W.g) (by omega)))
  · have e0:fB (f2 eqX (ab 5) (c0 ag)) ρ=some (.ok false):=by
     refine bC ((aP (x:=aO (unN js os)) (y:=.lst []) (aQ h5) rfl).trans ?_)
     have i2:=(cb (fL (ys:=os) J.g)).okP (by omega)
     have i3:okP (.lst [])=true:=by kernel_rfl
     cases hs:sK (unN js os) with
     | nil =>
      have:=iN (unN js os)
      rw [hs] at this
      exact absurd (Gr.mp this.symm) hu
     | cons x l =>
      rw [xQ,hs] at i2 ⊢
      unfold eqX
      rw [show eqS (.lst ((x :: l).map ek)) (.lst [])=none from rfl,i2,i3]
      simp [bp,toPys,EW,Gi]
    exact zn e0
 rw [aw (aV q9)]
 have w5:lZ ρ=some (.ok (.lst (((whole js os).map Note.md).map Dv.int))):=by
  rw [E_]
  exact gS enc (fun n=>.int n.md) (gT h8) (by omega) fun n _=>rfl
 rw [aw (bU w5 rfl)]
 subst hρ
 have q10:jq (EC ns js os (some (aO (bd js os))) (some (aO (bd os js))) (some (aO (unN js os))) (some (.lst (js.map ek))) (some (.lst (os.map ek))) (some (ej (whole js os))) (some (.lst (((whole js os).map Note.md).map Dv.int))))=some (.ok false):=by
  have s1:av leI ((whole js os).map Note.md)=(whole js os).map Note.md:=jB (by
   rw [FY]
   exact (eC J.k O.k).imp fun {a b} h=>by simp only [leI,decide_eq_true_eq]; exact vn h)
  have s2:cX [.lst (((whole js os).map Note.md).map Dv.int)]=some (.ok (.lst (((whole js os).map Note.md).map Dv.int))):=by
   have im:∀ l:List Int,cy (l.map Dv.int)=some l:=by
    intro l
    induction l with
    | nil=>rfl
    | cons n l ih =>
     show (cy (l.map Dv.int)).map (n :: ·)=_
     rw [ih]
     rfl
   cases hw:(whole js os).map Note.md with
   | nil=>rfl
   | cons m ms =>
    rw [hw] at s1
    have hz:(m :: ms).length < 64:=by rw [← hw,Ey]; omega
    show (match cy ((m :: ms).map Dv.int) with
     | some ns=>if ns.length < 64 then some (Rs.ok (Dv.lst ((av leI ns).map Dv.int))) else none
     | none=>match aN ((m :: ms).map Dv.int) with
      | some ss=>if ss.length < 64 then some (Rs.ok (Dv.lst ((av leS ss).map Dv.str))) else none
      | none=>none)=_
    rw [im]
    dsimp only
    rw [if_pos hz,s1]
  exact bC ((aP (x:=.lst (((whole js os).map Note.md).map Dv.int)) rfl ((cg (ao rfl aK)).trans s2)).trans (jv (k:=1) (qT fun d hd=>by
   obtain ⟨n,_,rfl⟩:=m_.mp hd
   exact m8) (by omega)))
 exact ⟨_,aV q10,rfl⟩
end
theorem ux (ns:List Int) (hl:ns.length≤63):qS [.scr ns]=some (.ok (.bl true)):=by
 obtain ⟨js,now,eJ,J,hjl,JJ⟩:=rf ns hl 20 6 (by omega)
 obtain ⟨os,eO,Jo,hol⟩:=xJ ns hl 120 JJ (by omega)
 obtain ⟨ps,now2,eP,Jp,hpl,_⟩:=rf ns hl 220 5 (by omega)
 have JN:Jar []:=⟨by simp,fun i h=>by simp at h,by simp,by simp⟩
 refine c6 ?_
 show qR [some (.scr ns),none,none,none,none,none,none,none,none,none]=_
 unfold qR
 have w0:lL [some (.scr ns),none,none,none,none,none,none,none,none,none]=some (.ok (ej js)):=qU aL rfl rfl rfl eJ
 rw [aw (bU w0 rfl)]
 simp only [GA,Gz]
 have ss:bd js js=[]:=jC fun k hk=>hk
 have q0:lM [some (.scr ns),some (ej js),none,none,none,none,none,none,none,none]=some (.ok false):=by
  have e:chg js js=.tup [.lst [],.lst [],.lst []]:=by unfold chg; rw [ss,ur]; rfl
  exact bC ((aP (x:=.tup [.lst [],.lst [],.lst []]) (y:=.tup [.lst [],.lst [],.lst []]) (fZ aA rfl rfl ((bT J J).trans (by rw [e]))) (by kernel_rfl)).trans (by kernel_rfl))
 rw [aw (aV q0)]
 have WJ:=gU J J (by omega)
 have lW:=WJ.l
 have q1:lN [some (.scr ns),some (ej js),none,none,none,none,none,none,none,none]=some (.ok false):=by
  have e1:aO (whole js js)=aO js:=cF (cm J.k J.k) J.k fun k=>by rw [ce J.k J.k]; exact or_self_iff
  have hm:ae aD 2 (aa (ab 1) (aa (ab 1) ag)) [some (.scr ns),some (ej js),none,none,none,none,none,none,none,none]=some (.ok (ej (whole js js))):=fZ aD rfl rfl (kQ J J (by omega))
  refine bC ((aP (x:=aO js) (y:=aO js) ((cg (ao (fK enc ek (l4 hm) (by omega) fun n _=>cW au rfl (dj n)) aK)).trans ((bc (by omega)).trans (by rw [e1]))) ((cg (ao (cD dj (by omega) rfl) aK)).trans (bc (by omega)))).trans (jv (cb J.g) (by omega)))
 rw [aw (aV q1)]
 have h1:vR 2 [2,3,4,5,6,7,8,9] (bP (cf (aa (ae b3 3 (aa (ab 0) (aa (fC (.int 120)) (aa (ab 1) ag)))) (aa (ae aL 3 (aa (ab 0) (aa (fC (.int 220)) (aa (fC (.int 5)) ag)))) ag)))) gR [some (.scr ns),some (ej js),none,none,none,none,none,none,none,none]=some (.nx [some (.scr ns),some (ej js),none,none,none,none,none,none,none,none]):=by
  rw [wm (ds:=[ej os,ej ps]) (l4 (li (ao (qU b3 rfl rfl rfl eO) (ao (qU aL rfl rfl rfl eP) aK)) (show 2≤100000 by omega)))]
  refine gK (fun d hd=>?_) _ rfl
  simp only [pi,FK,or_false] at hd
  rcases hd with rfl | rfl
  · exact Bo J Jo (by omega) ns
  · exact Bo J Jp (by omega) ns
 rw [aw h1]
 refine eK ?_
 unfold l0 kT
 have a1:(f2 eqX (ae aD 2 (aa (cf ag) (aa (cf ag) ag))) (cf ag)) [some (.scr ns),some (ej js),none,none,none,none,none,none,none,none]=bo true:=(aP (x:=ej []) (y:=ej []) (fZ aD rfl rfl ((kQ JN JN (by simp [whole,mgd,nr,av])).trans rfl)) rfl).trans (by kernel_rfl)
 rw [a1]
 have n1:bd js []=js:=by
  unfold bd
  rw [List.filter_eq_self]
  intro a _
  rfl
 show (f2 eqX (f2 ixD (ae aA 2 (aa (cf ag) (aa (ab 1) ag))) (fC (.int 1))) (fB1 cX (aa (ba [] (bP (ab 1)) none (ae au 1 (aa (ab 0) ag))) ag))) [some (.scr ns),some (ej js),none,none,none,none,none,none,none,none]=_
 refine (aP (x:=aO js) (y:=aO js) ((aP (x:=chg [] js) (y:=.int 1) (fZ aA rfl rfl (bT JN J)) rfl).trans (show ixD (chg [] js) (.int 1)=_ from by
  show some (Rs.ok (aO (bd js [])))=_
  rw [n1])) ((cg (ao (cD dj (by omega) rfl) aK)).trans (bc (by omega)))).trans ?_
 exact xt ((cb J.g).okP (by omega)) (cb J.g).p
end G
namespace G
open PySem PySem.Spec PyProof.Rows L2 FD
theorem walk {l:KN} {q:Program} {loose:List Str} {XP:(Str→Option Value)→Heap→Prop} {YP:w_→Heap→Prop} {d:DefRec} {K:K5→ck} (hn:l.most=some 63) (hdf:d.params.defaults=[])
 (hY:∀ (w:w_) (h:Heap),YP w h→(K w.params).In h)
 (F:∀ (w:w_) (mg:Str→Option Value) (fa:Addr) (h:Heap),(K w.params).In h→h.Ns EA mg→mg d.name=some (.ref fa) →
   ∃ fd:FL,(∀ (s:c_) (u:Value),KB s fd ⟨[u],[]⟩ [("_law_script",u)])∧∀ base:Heap,(K w.params).In base→base.Ns EA mg→FnOk l.prog w (K w.params) mg base CX0 9 fa fd ["_law_script"] (spF (K w.params) qS 1)) :
 MW q loose XP YP l.row.toRowW d [] (fun f vs=>MI f vs) :=
 L2.walk_of (n:=63) (k:=9) (x:="_law_script") (CX:=fun _=>CX0) (sp:=fun w=>spF (K w.params) qS 1) hn (by decide) hdf ⟨rfl,by decide,by decide⟩ hY F
  (fun _ _ a ns hl _ hS=>⟨[.scr ns],⟨.ref a,[],rfl,⟨a,rfl,hS⟩,rfl⟩,rfl,by rw [ux ns hl]; exact fun v H' _ r=>r⟩) fun _ _ _ _ _ z=>z
end G
open PySem PySem.W PyProof.Rows
set_option maxRecDepth 100000 in
theorem PySem.Challenge.cw_notejar_k56_whole_compared_holds : PySem.Challenge.rw_notejar_k56_whole_compared.Holds := by
 refine G.hld fun said=>?_
 refine PySem.W.holds_open (q:=G.VQ) (loose:=G.VL) (Xt:=fun s=>recOk [] s) (XP:=fun _ _=>True) (Yf:=Hook.obs (MZ G.KK G.KA G.KA_ok)) (Ya:=Hook.val (MZ G.KK G.KA G.KA_ok)) (YP:=Hook.says (MZ G.KK G.KA G.KA_ok)) (N:=3340) G.left (Hook.of (MZ G.KK G.KA G.KA_ok)) (Hook.keeps (MZ G.KK G.KA G.KA_ok)) (fun _ _=>trivial) (fun _ _ _ _ _=>trivial) (by rfl) (by rfl) (by rfl) (fun s e=>recFacts_of e) (by rfl) (by first | assumption | decide +kernel) (by decide +kernel) G.hbr ?hw ?hc
 (case hw=>w_witness2)
 refine G.walk (l:=PySem.Challenge.rw_notejar_k56_whole_compared) rfl rfl (fun w h Y=>PySem.W.kIn_of Y) ?F
 case F =>
  intro w mg fa h KX hG hmg
  exact G.all_mk KX hG hmg (G.af 193 "law_notejar_k56_whole_compared" 447 192) (G.af 200 "law_notejar_k56_whole_compared" 447 199) (G.af 207 "law_notejar_k56_whole_compared" 447 206) (G.af 214 "law_notejar_k56_whole_compared" 447 213) (G.af 219 "law_notejar_k56_whole_compared" 447 218) (G.af 226 "law_notejar_k56_whole_compared" 447 225) (G.af 231 "law_notejar_k56_whole_compared" 447 230) (G.af 124 "notejar.notes" 332 123) (G.af 139 "notejar.jars" 370 138) (G.af 134 "notejar.jars" 370 133) (G.af 51 "notejar.kinds" 223 50) (G.af 84 "notejar.asks" 284 83) (G.af 91 "notejar.asks" 284 90) (G.af 44 "notejar.kinds" 223 43) (G.af 65 "notejar.names" 248 64) (G.af 70 "notejar.names" 248 69) (G.af 98 "notejar.giving" 302 97) (G.af 77 "notejar.paths" 271 76) (G.af 110 "notejar.giving" 302 109) (G.af 58 "notejar.kinds" 223 57) (G.af 103 "notejar.giving" 302 102) (G.af 117 "notejar.notes" 332 116) (G.af 129 "notejar.jars" 370 128) (G.af 146 "notejar.jars" 370 145) (G.af 158 "notejar.comparing" 406 157) (G.af 186 "notejar.comparing" 406 185) (G.af 179 "notejar.comparing" 406 178) (G.af 153 "notejar.jars" 370 152) (G.af 172 "notejar.comparing" 406 171) (G.af 165 "notejar.comparing" 406 164) (G.af 236 "law_notejar_k56_whole_compared" 447 235) (G.af 241 "law_notejar_k56_whole_compared" 447 240) (by kernel_rfl)
#print axioms PySem.Challenge.cw_notejar_k56_whole_compared_holds
