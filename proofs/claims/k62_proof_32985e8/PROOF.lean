import PyProof.Rows.All
import Wide.All
import OpenK.AllK
import Wide.FinOn
import Lean
import PyProof.EqAt
import PyProof.EqKinds
import PyProof.TupleCall
import PySem.SetTable
import PyProof.SetKind
import PyProof.TupleKey
import PyProof.DictKinds
import PyProof.Rows.SetFrom
import PyProof.ZipIter
import PyProof.Conv_int
import PyProof.FactsAll.str
import PyProof.EnumIter
import PyProof.Rows.SortStr
import PyProof.Rows.SortWalk
import PyProof.Rows.MinMaxN
import PyProof.ConsumeWalk
import PyProof.CollectWalk
import PyProof.WalksMore
import PyProof.CollectStr
import PyProof.Rows.SortShellK
import PyProof.Rows.SortRunsK
import KE.KSortKey
import PyProof.Rows.CallKwBuiltin
import PyProof.SumAny
import PyProof.SeqI3
import PySem.Challenge.RW_notejar_k62_whole_groups
set_option maxHeartbeats 4000000
set_option Elab.async false
namespace G
open PySem PySem.W PyProof.Rows
noncomputable def hT (i : Nat) : Stmt := PySem.Challenge.pw_notejar_k62_whole_groups.main.body.getD i (.Pass ⟨0, 0, 0, 0⟩)
noncomputable def hA (s : Stmt) : Arguments := match s with
 | .FunctionDef _ a _ _ _ _ _ _ _ _ => a
 | _ => { posonlyargs := [], args := [], vararg := none, kwonlyargs := [], kw_defaults := [], kwarg := none, defaults := [] }
noncomputable def hB (s : Stmt) : List Stmt := match s with
 | .FunctionDef _ _ b _ _ _ _ _ _ _ => b
 | _ => []
noncomputable def hS (s : Stmt) : Scope := match s with
 | .FunctionDef _ _ _ _ _ _ sc _ _ _ => sc
 | _ => { kind := .function, names := [], isGenerator := false, isCoroutine := false }
noncomputable abbrev kS (s : String) (t : Nat) : Value := .str (Str.ofString s) t
noncomputable abbrev kR (a : Nat) : Value := .ref a
noncomputable abbrev kI (i : Int) (t : Nat) : Value := .int i t
noncomputable abbrev kE (P : Params) (s : String) (t : Nat) (v : Value) : DictEntry := ⟨PySem.PyData.keyHash P (Str.ofString s), .str (Str.ofString s) t, v⟩
noncomputable def kF (x : String) (i : Nat) (m : String) (t c : Nat) : Obj := Obj.mk (Value.type "function") Option.none (Data.func (fnOf (Str.ofString x) (Str.ofString x) (hA (hT i)) (hB (hT i)) (hS (hT i)) .none Value.none Value.none (kS m t) Option.none (kR c) Value.none)) #[]
noncomputable def kC (x : String) (a b c : Nat) (d e f : Int) (g : Nat) (h : Int) (i j : Nat) (k l : Int) (m : Nat) : Obj := Obj.mk (Value.type "code") Option.none (Data.fields #[kS x a, kS x b, kS "/claim/cut.py" c, kI d 0, kI e 0, kI 0 0, kI 0 0, kI f 0, kR g, Value.bool Bool.true, kI h 0, kR i, Value.none, Value.none, Value.none, kR j, kI k 0, kI l 0, kS "/claim/cut.py" m]) #[]
noncomputable def kD (x : String) (a b c : Nat) (d e f : Int) (g : Nat) (h : Int) (i u v j : Nat) (k l : Int) (m : Nat) : Obj := Obj.mk (Value.type "code") Option.none (Data.fields #[kS x a, kS x b, kS "/claim/cut.py" c, kI d 0, kI e 0, kI 0 0, kI 0 0, kI f 0, kR g, Value.bool Bool.true, kI h 0, kR i, Value.none, kR u, kR v, kR j, kI k 0, kI l 0, kS "/claim/cut.py" m]) #[]
noncomputable def KKa (P : Params) : Frag := [(2, Obj.mk Value.none Option.none (Data.dict #[]) #[]),
 (3, Obj.mk (Value.type "dict") Option.none (Data.dict #[kE P "__name__" 165 (kS "law_notejar_k62_whole_groups" 559), kE P "__doc__" 166 Value.none, kE P "__package__" 167 Value.none, kE P "__loader__" 168 (Value.builtin "__main__.__loader__#opaque"), kE P "__spec__" 169 Value.none, kE P "__annotations__" 170 (kR 6), kE P "__builtins__" 171 (kR 4), kE P "__file__" 173 (kS "/claim/cut.py" 172), kE P "__cached__" 174 Value.none, kE P "JarError" 206 (kR 24), kE P "NoTable" 222 (kR 37), kE P "NoJar" 238 (kR 49), kE P "NoNumber" 254 (kR 61), kE P "is_text_of" 262 (kR 68), kE P "is_whole_number" 271 (kR 75), kE P "is_tuple_of" 279 (kR 82), kE P "FIGURES" 283 (kS "0123456789" 282), kE P "LABEL_SIGNS" 285 (kS "abcdefghijklmnopqrstuvwxyz0123456789-" 284), kE P "LONGEST_LABEL" 287 (kI 8 286), kE P "MOST_LABELS" 289 (kI 5 288), kE P "MOST_RULES" 291 (kI 8 290), kE P "is_label" 298 (kR 89), kE P "is_name" 304 (kR 94), kE P "is_rule" 311 (kR 101), kE P "is_table" 317 (kR 106), kE P "need_table" 324 (kR 113), kE P "ends_longest_first" 330 (kR 118), kE P "behind_first_dot" 337 (kR 125), kE P "is_told_open" 345 (kR 132), kE P "find_open_end" 355 (kR 139), kE P "find_own_end" 366 (kR 146), kE P "PATH_SIGNS" 370 (kS "abcdefghijklmnopqrstuvwxyz0123456789-_./" 369), kE P "LONGEST_PATH" 372 (kI 20 371), kE P "is_path" 379 (kR 153), kE P "LAST_MOMENT" 383 (kI 9999 382), kE P "is_moment" 390 (kR 160), kE P "is_moment_or_none" 397 (kR 167), kE P "NOTE_NAME_SIGNS" 401 (kS "abcdefghijklmnopqrstuvwxyzABCDEFGHIJKLMNOPQRSTUVWXYZ0123456789-_" 400), kE P "LONGEST_NOTE_NAME" 403 (kI 10 402), kE P "NO_WORTH_SIGNS" 405 (kS ";,=" 404), kE P "LONGEST_WORTH" 407 (kI 12 406), kE P "is_note_name" 414 (kR 174), kE P "is_worth" 420 (kR 179), kE P "is_reach" 427 (kR 186), kE P "NOTE_NAME" 431 (kI 0 430), kE P "NOTE_WORTH" 433 (kI 1 432), kE P "NOTE_HOUSE" 435 (kI 2 434), kE P "NOTE_EXACT" 437 (kI 3 436), kE P "NOTE_PATH" 439 (kI 4 438), kE P "NOTE_ENDS" 441 (kI 5 440), kE P "NOTE_SAFE" 443 (kI 6 442), kE P "NOTE_REACH" 445 (kI 7 444), kE P "NOTE_MADE" 447 (kI 8 446), kE P "NOTE_USED" 449 (kI 9 448), kE P "NOTE_PARTS" 451 (kI 10 450), kE P "is_note" 458 (kR 193), kE P "key" 465 (kR 200), kE P "MOST_NOTES" 469 (kI 20 468), kE P "is_jar" 475 (kR 205), kE P "is_by_made" 481 (kR 210), kE P "has_no_key_twice" 487 (kR 215), kE P "need_jar" 494 (kR 222), kE P "LARGEST_ROOM" 498 (kI 20 497), kE P "need_room" 505 (kR 229), kE P "group_of" 514 (kR 236), kE P "groups" 520 (kR 241), kE P "fitted" 530 (kR 248), kE P "fit" 536 (kR 253), kE P "too_many" 545 (kR 260), kE P "rank" 552 (kR 267), kE P "without" 558 (kR 272), kE P "_law_cell" 568 (kR 279), kE P "_law_drawn" 578 (kR 286), kE P "_law_name" 587 (kR 293), kE P "_law_table" 593 (kR 298), kE P "_law_path" 602 (kR 305), kE P "_law_jar" 608 (kR 310), kE P "_law_ends" 614 (kR 315), kE P "_law_open" 620 (kR 320), kE P "_law_own" 626 (kR 325), kE P "_law_group" 635 (kR 332), kE P "law" 641 (kR 337)] 82) #[]),
 (23, Obj.mk (Value.type "dict") Option.none (Data.dict #[kE P "__module__" 196 (kS "notejar.errors" 187), kE P "__firstlineno__" 200 (kI 2 199), kE P "__static_attributes__" 201 (kR 22), kE P "__weakref__" 203 (kR 25), kE P "__doc__" 204 Value.none] 3) #[]),
 (24, Obj.mk (Value.type "type") Option.none (Data.cls (PySem.ClassData.mk (Str.ofString "JarError") [Value.type "ValueError"] [kR 24, Value.type "ValueError", Value.type "Exception", Value.type "BaseException", Value.type "object"] 23 (Str.ofString "JarError") Bool.true [] [kR 37, kR 49, kR 61] Bool.false Option.none Bool.false)) #[Option.some (kR 15), Option.none, Option.some (kS "JarError" 189), Option.some (kS "JarError" 197), Option.some (Value.builtin "ValueError.__new__"), Option.some (Value.bool Bool.true)]),
 (36, Obj.mk (Value.type "dict") Option.none (Data.dict #[kE P "__module__" 214 (kS "notejar.errors" 187), kE P "__firstlineno__" 218 (kI 4 217), kE P "__static_attributes__" 219 (kR 35), kE P "__doc__" 220 Value.none] 2) #[]),
 (37, Obj.mk (Value.type "type") Option.none (Data.cls (PySem.ClassData.mk (Str.ofString "NoTable") [kR 24] [kR 37, kR 24, Value.type "ValueError", Value.type "Exception", Value.type "BaseException", Value.type "object"] 36 (Str.ofString "NoTable") Bool.true [] [] Bool.false Option.none Bool.false)) #[Option.some (kR 28), Option.none, Option.some (kS "NoTable" 207), Option.some (kS "NoTable" 215), Option.some (Value.builtin "ValueError.__new__"), Option.some (Value.bool Bool.true)]),
 (48, Obj.mk (Value.type "dict") Option.none (Data.dict #[kE P "__module__" 230 (kS "notejar.errors" 187), kE P "__firstlineno__" 234 (kI 6 233), kE P "__static_attributes__" 235 (kR 47), kE P "__doc__" 236 Value.none] 2) #[]),
 (49, Obj.mk (Value.type "type") Option.none (Data.cls (PySem.ClassData.mk (Str.ofString "NoJar") [kR 24] [kR 49, kR 24, Value.type "ValueError", Value.type "Exception", Value.type "BaseException", Value.type "object"] 48 (Str.ofString "NoJar") Bool.true [] [] Bool.false Option.none Bool.false)) #[Option.some (kR 40), Option.none, Option.some (kS "NoJar" 223), Option.some (kS "NoJar" 231), Option.some (Value.builtin "ValueError.__new__"), Option.some (Value.bool Bool.true)]),
 (60, Obj.mk (Value.type "dict") Option.none (Data.dict #[kE P "__module__" 246 (kS "notejar.errors" 187), kE P "__firstlineno__" 250 (kI 8 249), kE P "__static_attributes__" 251 (kR 59), kE P "__doc__" 252 Value.none] 2) #[]),
 (61, Obj.mk (Value.type "type") Option.none (Data.cls (PySem.ClassData.mk (Str.ofString "NoNumber") [kR 24] [kR 61, kR 24, Value.type "ValueError", Value.type "Exception", Value.type "BaseException", Value.type "object"] 60 (Str.ofString "NoNumber") Bool.true [] [] Bool.false Option.none Bool.false)) #[Option.some (kR 52), Option.none, Option.some (kS "NoNumber" 239), Option.some (kS "NoNumber" 247), Option.some (Value.builtin "ValueError.__new__"), Option.some (Value.bool Bool.true)]),
 (67, kC "is_text_of" 257 258 259 11 4 3 64 181 65 66 260 11 261),
 (68, kF "is_text_of" 6 "notejar.kinds" 255 67),
 (74, kD "is_whole_number" 263 264 265 17 3 3 69 181 70 71 72 73 269 17 270),
 (75, kF "is_whole_number" 7 "notejar.kinds" 255 74),
 (81, kD "is_tuple_of" 272 273 274 21 2 3 76 181 77 78 79 80 277 21 278),
 (82, kF "is_tuple_of" 8 "notejar.kinds" 255 81),
 (88, kD "is_label" 292 293 294 29 1 3 83 181 84 85 86 87 296 29 297),
 (89, kF "is_label" 15 "notejar.names" 280 88),
 (93, kC "is_name" 299 300 301 33 1 3 90 181 91 92 302 33 303),
 (94, kF "is_name" 16 "notejar.names" 280 93),
 (100, kD "is_rule" 305 306 307 40 1 3 95 181 96 97 98 99 309 40 310),
 (101, kF "is_rule" 17 "notejar.names" 280 100),
 (105, kC "is_table" 312 313 314 48 1 3 102 181 103 104 315 48 316),
 (106, kF "is_table" 18 "notejar.names" 280 105),
 (112, kD "need_table" 318 319 320 54 1 3 107 181 108 109 110 111 322 54 323),
 (113, kF "need_table" 19 "notejar.names" 280 112),
 (117, kC "ends_longest_first" 325 326 327 57 1 3 114 181 115 116 328 57 329),
 (118, kF "ends_longest_first" 20 "notejar.names" 280 117),
 (124, kD "behind_first_dot" 331 332 333 60 1 3 119 181 120 121 122 123 335 60 336),
 (125, kF "behind_first_dot" 21 "notejar.names" 280 124),
 (131, kD "is_told_open" 338 339 340 62 2 3 126 181 127 128 129 130 343 62 344),
 (132, kF "is_told_open" 22 "notejar.names" 280 131),
 (138, kD "find_open_end" 346 347 348 66 2 3 133 181 134 135 136 137 353 66 354),
 (139, kF "find_open_end" 23 "notejar.names" 280 138),
 (145, kD "find_own_end" 356 357 358 75 2 3 140 181 141 142 143 144 364 75 365),
 (146, kF "find_own_end" 24 "notejar.names" 280 145),
 (152, kD "is_path" 373 374 375 85 1 3 147 181 148 149 150 151 377 85 378),
 (153, kF "is_path" 28 "notejar.paths" 367 152),
 (159, kD "is_moment" 384 385 386 89 1 3 154 181 155 156 157 158 388 89 389),
 (160, kF "is_moment" 31 "notejar.asks" 380 159),
 (166, kD "is_moment_or_none" 391 392 393 91 1 3 161 181 162 163 164 165 395 91 396),
 (167, kF "is_moment_or_none" 32 "notejar.asks" 380 166),
 (173, kD "is_note_name" 408 409 410 98 1 3 168 181 169 170 171 172 412 98 413),
 (174, kF "is_note_name" 38 "notejar.giving" 398 173),
 (178, kC "is_worth" 415 416 417 100 1 3 175 181 176 177 418 100 419),
 (179, kF "is_worth" 39 "notejar.giving" 398 178),
 (185, kD "is_reach" 421 422 423 104 1 3 180 181 181 182 183 184 425 104 426),
 (186, kF "is_reach" 40 "notejar.giving" 398 185),
 (192, kD "is_note" 452 453 454 118 1 3 187 181 188 189 190 191 456 118 457)]
noncomputable def KKb (P : Params) : Frag := [(193, kF "is_note" 53 "notejar.notes" 428 192),
 (199, kD "key" 459 460 461 124 1 3 194 181 195 196 197 198 463 124 464),
 (200, kF "key" 54 "notejar.notes" 428 199),
 (204, kC "is_jar" 470 471 472 128 1 3 201 181 202 203 473 128 474),
 (205, kF "is_jar" 57 "notejar.jars" 466 204),
 (209, kC "is_by_made" 476 477 478 134 1 3 206 181 207 208 479 134 480),
 (210, kF "is_by_made" 58 "notejar.jars" 466 209),
 (214, kC "has_no_key_twice" 482 483 484 136 1 3 211 181 212 213 485 136 486),
 (215, kF "has_no_key_twice" 59 "notejar.jars" 466 214),
 (221, kD "need_jar" 488 489 490 139 1 3 216 181 217 218 219 220 492 139 493),
 (222, kF "need_jar" 60 "notejar.jars" 466 221),
 (228, kD "need_room" 499 500 501 144 1 3 223 181 224 225 226 227 503 144 504),
 (229, kF "need_room" 63 "notejar.room" 495 228),
 (235, kD "group_of" 506 507 508 147 2 3 230 181 231 232 233 234 512 147 513),
 (236, kF "group_of" 64 "notejar.room" 495 235),
 (240, kC "groups" 515 516 517 152 2 3 237 181 238 239 518 152 519),
 (241, kF "groups" 65 "notejar.room" 495 240),
 (247, kD "fitted" 521 522 523 157 4 3 242 181 243 244 245 246 528 157 529),
 (248, kF "fitted" 66 "notejar.room" 495 247),
 (252, kC "fit" 531 532 533 163 4 3 249 181 250 251 534 163 535),
 (253, kF "fit" 67 "notejar.room" 495 252),
 (259, kD "too_many" 537 538 539 169 2 3 254 181 255 256 257 258 543 169 544),
 (260, kF "too_many" 68 "notejar.room" 495 259),
 (266, kD "rank" 546 547 548 172 1 3 261 181 262 263 264 265 550 172 551),
 (267, kF "rank" 69 "notejar.room" 495 266),
 (271, kC "without" 553 554 555 174 2 3 268 181 269 270 556 174 557),
 (272, kF "without" 70 "notejar.room" 495 271),
 (278, kD "_law_cell" 561 562 563 177 2 3 273 181 274 275 276 277 566 177 567),
 (279, kF "_law_cell" 72 "law_notejar_k62_whole_groups" 559 278),
 (285, kD "_law_drawn" 569 570 571 181 3 3 280 181 281 282 283 284 576 181 577),
 (286, kF "_law_drawn" 73 "law_notejar_k62_whole_groups" 559 285),
 (292, kD "_law_name" 579 580 581 185 2 3 287 181 288 289 290 291 585 185 586),
 (293, kF "_law_name" 74 "law_notejar_k62_whole_groups" 559 292),
 (297, kC "_law_table" 588 589 590 189 2 3 294 181 295 296 591 189 592),
 (298, kF "_law_table" 75 "law_notejar_k62_whole_groups" 559 297),
 (304, kD "_law_path" 594 595 596 192 2 3 299 181 300 301 302 303 600 192 601),
 (305, kF "_law_path" 76 "law_notejar_k62_whole_groups" 559 304),
 (309, kC "_law_jar" 603 604 605 195 3 3 306 181 307 308 606 195 607),
 (310, kF "_law_jar" 77 "law_notejar_k62_whole_groups" 559 309),
 (314, kC "_law_ends" 609 610 611 213 1 3 311 181 312 313 612 213 613),
 (315, kF "_law_ends" 78 "law_notejar_k62_whole_groups" 559 314),
 (319, kC "_law_open" 615 616 617 216 2 3 316 181 317 318 618 216 619),
 (320, kF "_law_open" 79 "law_notejar_k62_whole_groups" 559 319),
 (324, kC "_law_own" 621 622 623 223 2 3 321 181 322 323 624 223 625),
 (325, kF "_law_own" 80 "law_notejar_k62_whole_groups" 559 324),
 (331, kD "_law_group" 627 628 629 227 2 3 326 181 327 328 329 330 633 227 634),
 (332, kF "_law_group" 81 "law_notejar_k62_whole_groups" 559 331),
 (336, kC "law" 636 637 638 230 1 3 333 181 334 335 639 230 640),
 (337, kF "law" 82 "law_notejar_k62_whole_groups" 559 336)]
noncomputable def KK (P : Params) : Frag := KKa P ++ KKb P
noncomputable def KAa : List Addr := [2, 3, 23, 24, 36, 37, 48, 49, 60, 61, 67, 68, 74, 75, 81, 82, 88, 89, 93, 94, 100, 101, 105, 106, 112, 113, 117, 118, 124, 125, 131, 132, 138, 139, 145, 146, 152, 153, 159, 160, 166, 167, 173, 174, 178, 179, 185, 186, 192]
noncomputable def KAb : List Addr := [193, 199, 200, 204, 205, 209, 210, 214, 215, 221, 222, 228, 229, 235, 236, 240, 241, 247, 248, 252, 253, 259, 260, 266, 267, 271, 272, 278, 279, 285, 286, 292, 293, 297, 298, 304, 305, 309, 310, 314, 315, 319, 320, 324, 325, 331, 332, 336, 337]
noncomputable def KA : List Addr := KAa ++ KAb
theorem KA_ok (P : Params) : KA = (KK P).map (·.1) := by kernel_rfl
noncomputable def VQ : Program := view PySem.Challenge.pw_notejar_k62_whole_groups [82]
noncomputable def VL : List Str := [Str.ofString "JarError", Str.ofString "NoTable", Str.ofString "NoJar", Str.ofString "NoNumber", Str.ofString "is_text_of", Str.ofString "is_whole_number", Str.ofString "is_tuple_of", Str.ofString "FIGURES", Str.ofString "LABEL_SIGNS", Str.ofString "LONGEST_LABEL", Str.ofString "MOST_LABELS", Str.ofString "MOST_RULES", Str.ofString "is_label", Str.ofString "is_name", Str.ofString "is_rule", Str.ofString "is_table", Str.ofString "need_table", Str.ofString "ends_longest_first", Str.ofString "behind_first_dot", Str.ofString "is_told_open", Str.ofString "find_open_end", Str.ofString "find_own_end", Str.ofString "PATH_SIGNS", Str.ofString "LONGEST_PATH", Str.ofString "is_path", Str.ofString "LAST_MOMENT", Str.ofString "is_moment", Str.ofString "is_moment_or_none", Str.ofString "NOTE_NAME_SIGNS", Str.ofString "LONGEST_NOTE_NAME", Str.ofString "NO_WORTH_SIGNS", Str.ofString "LONGEST_WORTH", Str.ofString "is_note_name", Str.ofString "is_worth", Str.ofString "is_reach", Str.ofString "NOTE_NAME", Str.ofString "NOTE_WORTH", Str.ofString "NOTE_HOUSE", Str.ofString "NOTE_EXACT", Str.ofString "NOTE_PATH", Str.ofString "NOTE_ENDS", Str.ofString "NOTE_SAFE", Str.ofString "NOTE_REACH", Str.ofString "NOTE_MADE", Str.ofString "NOTE_USED", Str.ofString "NOTE_PARTS", Str.ofString "is_note", Str.ofString "key", Str.ofString "MOST_NOTES", Str.ofString "is_jar", Str.ofString "is_by_made", Str.ofString "has_no_key_twice", Str.ofString "need_jar", Str.ofString "LARGEST_ROOM", Str.ofString "need_room", Str.ofString "group_of", Str.ofString "groups", Str.ofString "fitted", Str.ofString "fit", Str.ofString "too_many", Str.ofString "rank", Str.ofString "without", Str.ofString "_law_cell", Str.ofString "_law_drawn", Str.ofString "_law_name", Str.ofString "_law_table", Str.ofString "_law_path", Str.ofString "_law_jar", Str.ofString "_law_ends", Str.ofString "_law_open", Str.ofString "_law_own", Str.ofString "_law_group"]
theorem DB {α β γ : Type} {o : Option α} {f : α → β} {g : α → γ} {a : β} {b : γ} (h1 : o.map f = some a) (h2 : o.map g = some b) : o.map (fun s => (f s, g s)) = some (a, b) := by
 cases o with
 | none => cases h1
 | some x => cases h1; cases h2; rfl
set_option maxRecDepth 100000 in
theorem Bl (w : World) : (openEnds treeTable PySem.Challenge.pw_notejar_k62_whole_groups w 4912).map (openSeen VQ VL (importedModules PySem.Challenge.pw_notejar_k62_whole_groups.main.body) (fun s => recOk [] s) true) = some (openGood VQ VL) := by kernel_rfl
set_option maxRecDepth 100000 in
theorem xI (w : World) : (openEnds treeTable PySem.Challenge.pw_notejar_k62_whole_groups w 4912).map (fun s => KAa.map s.heap.get?) = some ((KKa w.params).map fun p => some p.2) := by kernel_rfl
set_option maxRecDepth 100000 in
theorem xJ (w : World) : (openEnds treeTable PySem.Challenge.pw_notejar_k62_whole_groups w 4912).map (fun s => KAb.map s.heap.get?) = some ((KKb w.params).map fun p => some p.2) := by kernel_rfl
theorem sw {α β γ : Type} {o : Option α} {f : α → β → γ} {A B : List β} {X Y : List γ} (h1 : o.map (fun s => A.map (f s)) = some X) (h2 : o.map (fun s => B.map (f s)) = some Y) : o.map (fun s => (A ++ B).map (f s)) = some (X ++ Y) := by
 cases o with
 | none => cases h1
 | some x => cases h1; cases h2; simp
theorem Bm (w : World) : (openEnds treeTable PySem.Challenge.pw_notejar_k62_whole_groups w 4912).map (fun s => KA.map s.heap.get?) = some ((KK w.params).map fun p => some p.2) := by
 show (openEnds treeTable PySem.Challenge.pw_notejar_k62_whole_groups w 4912).map (fun s => (KAa ++ KAb).map s.heap.get?) = some ((KKa w.params ++ KKb w.params).map fun p => some p.2)
 rw [List.map_append]
 exact sw (f := fun s : Shared => s.heap.get?) (xI w) (xJ w)
theorem left : LeftO PySem.Challenge.pw_notejar_k62_whole_groups VQ VL (fun s => recOk [] s) (Hook.obs (kHook KK KA KA_ok)) (Hook.val (kHook KK KA KA_ok)) 4912 := fun w => DB (Bl w) (Bm w)
end G
set_option Elab.async false
set_option linter.all false
set_option maxRecDepth 100000
namespace L2
open PySem PySem.Spec PyProof.Rows
abbrev Key := Sum Int Str
def xK : Key → Value → Bool
 | .inl k, v => Value.isInt k v
 | .inr x, v => Value.isStrOf x v
def DC (w : World) : Key → Int
 | .inl k => hashInt k
 | .inr x => hashStr w x
theorem aN : ∀ {k : Key} {v : Value}, xK k v = true → (∃ i t, k = Sum.inl i ∧ v = Value.int i t) ∨ (∃ x t, k = Sum.inr x ∧ v = Value.str x t)
 | .inl i, v, h => by
  obtain ⟨t, e⟩ := Value.isInt_shape (k := i) (v := v) h
  exact .inl ⟨i, t, rfl, e⟩
 | .inr x, v, h => by
  obtain ⟨t, e⟩ := Value.isStrOf_shape (x := x) (v := v) h
  exact .inr ⟨x, t, rfl, e⟩
theorem xL (a b : Int) : decide ((Sum.inl a : Key) = Sum.inl b) = (a == b) := by
 by_cases e : a = b
 · subst e; simp
 · have h : ¬ (Sum.inl a : Key) = Sum.inl b := fun q => e (Sum.inl.inj q)
   rw [decide_eq_false h]
   exact (beq_eq_false_iff_ne.mpr e).symm
theorem xM (a b : Str) : decide ((Sum.inr a : Key) = Sum.inr b) = decide (a = b) := by
 by_cases e : a = b
 · subst e; simp
 · have h : ¬ (Sum.inr a : Key) = Sum.inr b := fun q => e (Sum.inr.inj q)
   rw [decide_eq_false h, decide_eq_false e]
theorem xN (a : Int) (b : Str) : decide ((Sum.inl a : Key) = Sum.inr b) = false := decide_eq_false (fun q => nomatch q)
theorem xO (a : Str) (b : Int) : decide ((Sum.inr a : Key) = Sum.inl b) = false := decide_eq_false (fun q => nomatch q)
def oQ (prog : Program) (w : World) : PySem.KeyKind prog w Key where
 is := xK
 hash := DC w
 inj := fun v a b ha hb => by
  rcases aN ha with ⟨i, t, rfl, rfl⟩ | ⟨x, t, rfl, rfl⟩
  · rcases aN hb with ⟨j, u, rfl, e⟩ | ⟨y, u, rfl, e⟩
    · injection e with e1 _; rw [e1]
    · exact nomatch e
  · rcases aN hb with ⟨j, u, rfl, e⟩ | ⟨y, u, rfl, e⟩
    · exact nomatch e
    · injection e with e1 _; rw [e1]
 byValue := fun k v h => by
  rcases aN h with ⟨i, t, rfl, rfl⟩ | ⟨x, t, rfl, rfl⟩ <;> rfl
 pyHash := fun hv h => by
  rcases aN hv with ⟨i, t, rfl, rfl⟩ | ⟨x, t, rfl, rfl⟩
  · exact wpAny_pyHash_int h
  · exact wpAny_pyHash_str h
 eqBool := fun hu hv h => by
  rcases aN hu with ⟨i, t, rfl, rfl⟩ | ⟨x, t, rfl, rfl⟩
  · rcases aN hv with ⟨j, u, rfl, rfl⟩ | ⟨y, u, rfl, rfl⟩
    · rw [xL] at h; exact wpAny_eqBool_int h
    · rw [xN] at h; exact SeqAt.EqAt.int_str i t y u _ _ _ _ h
  · rcases aN hv with ⟨j, u, rfl, rfl⟩ | ⟨y, u, rfl, rfl⟩
    · rw [xO] at h; exact SeqAt.EqAt.str_int x t j u _ _ _ _ h
    · rw [xM] at h; exact wpAny_eqBool_str h
 «strs» := fun k x t v h => by
  rcases aN h with ⟨i, u, rfl, e⟩ | ⟨y, u, rfl, e⟩
  · exact nomatch e
  · injection e with e1 _
    subst e1
    cases v <;> rfl
inductive V where
 | non | bl (b : Bool) | int (i : Int) | str (x : Str) | byt (b : Array UInt8) | flt (b : UInt64) | ref (a : Addr) | ty (n : String)
 deriving DecidableEq
def RelV : V → Value → Prop
 | .non, u => u = Value.none
 | .bl b, u => u = Value.bool b
 | .int i, u => ∃ t, u = Value.int i t
 | .str x, u => ∃ t, u = Value.str x t
 | .byt b, u => ∃ t, u = Value.bytes b t
 | .flt b, u => ∃ t, u = Value.float b t
 | .ref a, u => u = Value.ref a
 | .ty n, u => u = Value.type n
abbrev Vals : List V → List Value → Prop := Paired RelV
theorem Vals.length {xs : List V} {us : List Value} (r : Vals xs us) : xs.length = us.length := Paired.length r
theorem Vals.get : ∀ {xs : List V} {us : List Value} {i : Nat} {x : V}, Vals xs us → xs[i]? = some x → ∃ u, us[i]? = some u ∧ RelV x u
 | _, _, _, _, .nil, e => by simp at e
 | _, _, 0, _, .cons r _, e => by simp at e; subst e; exact ⟨_, rfl, r⟩
 | _, _, i + 1, x, .cons _ t, e => by
  obtain ⟨u, h1, h2⟩ := Vals.get (i := i) (x := x) t (by simpa using e)
  exact ⟨u, by simpa using h1, h2⟩
theorem Vals.set {x : V} {u : Value} (r : RelV x u) : ∀ {xs : List V} {us : List Value} (i : Nat), Vals xs us → Vals (xs.set i x) (us.set i u)
 | _, _, _, .nil => .nil
 | _, _, 0, .cons _ t => .cons r t
 | _, _, i + 1, .cons q t => .cons q (Vals.set r i t)
theorem Vals.append : ∀ {xs ys : List V} {us ws : List Value}, Vals xs us → Vals ys ws → Vals (xs ++ ys) (us ++ ws)
 | _, _, _, _, .nil, s => s
 | _, _, _, _, .cons r t, s => .cons r (Vals.append t s)
theorem Vals.take : ∀ {xs : List V} {us : List Value} (n : Nat), Vals xs us → Vals (xs.take n) (us.take n)
 | _, _, 0, _ => .nil
 | _, _, _ + 1, .nil => .nil
 | _, _, n + 1, .cons r t => .cons r (Vals.take n t)
theorem Vals.drop : ∀ {xs : List V} {us : List Value} (n : Nat), Vals xs us → Vals (xs.drop n) (us.drop n)
 | _, _, 0, r => r
 | _, _, _ + 1, .nil => .nil
 | _, _, n + 1, .cons _ t => Vals.drop n t
def Bn : Option V → Option Value → Prop
 | some v, some u => RelV v u
 | none, none => True
 | _, _ => False
def KV {κ : Type} : List (κ × V) → List (κ × Value) → Prop := Paired fun (p : κ × V) (q : κ × Value) => p.1 = q.1 ∧ RelV p.2 q.2
def kV : Key → V
 | .inl i => .int i
 | .inr x => .str x
inductive HO where
 | lst (xs : List V)
 | tup (xs : List V)
 | dK (kvs : List (Key × V)) | dT (kvs : List (List Key × V))
 | set (S : Int → Bool) (n : Nat)
 | ins (C dx : Addr) (fs : List (Str × V))
 | own (x : Addr)
 | xd (fs : List (Str × V))
 | met (f x : Addr)
 | rng (lo hi : Int)
 | frz (o : Obj) (u : HO)
 | tbl (ps : Array Value)
 | ext (φ : Heap → Prop)
abbrev Hp := Addr → Option HO
def upd (H : Hp) (a : Addr) (o : HO) : Hp := fun b => if b = a then some o else H b
theorem ai {H : Hp} {a : Addr} {o : HO} : upd H a o a = some o := by unfold upd; rw [if_pos rfl]
theorem ao {H : Hp} {a b : Addr} {o : HO} (h : b ≠ a) : upd H a o b = H b := by unfold upd; rw [if_neg h]
theorem vn {H : Hp} {a : Addr} {o u : HO} : upd (upd H a o) a u = upd H a u := by
 funext b; unfold upd; split <;> rfl
theorem am {H : Hp} {a b : Addr} {o : HO} (h : H a = some o) (h' : H b = none) : a ≠ b := by
 intro e; subst e; rw [h] at h'; cases h'
section
variable (P : Program) (w : World)
def ObjOk (H : Hp) (h : Heap) (a : Addr) : HO → Prop
 | .lst xs => xs.length ≤ sizeLine ∧ ∃ (its : List Value) (n : Nat), Vals xs its ∧ h.get? a = some { cls := .type "list", data := .seq its.toArray n }
 | .tup xs => xs.length ≤ sizeLine ∧ ∃ its : List Value, Vals xs its ∧ IsTup h a its.toArray
 | .dK kvs => kvs.length ≤ sizeLine ∧ (a == sysModules) = false ∧ ∃ vs, KV kvs vs ∧ h.DictOf (oQ P w) a vs
 | .dT kvs => kvs.length ≤ sizeLine ∧ (a == sysModules) = false ∧ ∃ xs : List (List Key × Addr × Value),
  Paired (fun (p : List Key × V) (q : List Key × Addr × Value) => p.1 = q.1 ∧ H q.2.1 = some (.tup (p.1.map kV)) ∧ RelV p.2 q.2.2) kvs xs ∧
  ∃ o es ep, h.get? a = some o ∧ o.ExactDict ∧ o.data = .dict es ep ∧ es.toList = xs.map (entryOfKey (tupleKind (oQ P w))) ∧ (xs.map (·.1)).Nodup
 | .set S n => h.SetOf (intKind P w) a S n
 | .ins C dx fs => H dx = some (.own a) ∧ fs.length ≤ 1000 ∧ dx ≠ a ∧ h.get? a = some (PySem.W.instObj C dx) ∧
  ∃ mA, h.Ns1 dx mA ∧ (∀ f, Bn (fs.lookup f) (mA f)) ∧ PySem.Within mA (fs.map (·.1))
 | .own _ => ∃ o, h.get? a = some o
 | .xd fs => ∃ mA, h.Ns1 a mA ∧ ∀ f, Bn (fs.lookup f) (mA f)
 | .rng lo hi => ∃ t u v, h.get? a = some { cls := .type "range", data := .fields #[.int lo t, .int hi u, .int 1 v] }
 | .frz o u => h.get? a = some o ∧ ObjOk H h a u
 | .tbl ps => h.get? a = some { cls := .none, data := .fields ps }
 | .met f x => h.get? a = some (PySem.W.methodObj (.ref f) (.ref x))
 | .ext φ => φ h ∧ (∃ o, h.get? a = some o) ∧ ∀ h1 h2 : Heap, φ h1 → (∀ o, h1.get? a = some o → h2.get? a = some o) → φ h2
def HOk (H : Hp) (h : Heap) : Prop := ∀ a o, H a = some o → ObjOk P w H h a o
end
section
variable {P : Program} {w : World} {H H' : Hp} {h h' : Heap} {a : Addr} {o : HO}
theorem ObjOk.lt (x : ObjOk P w H h a o) : a < h.objs.size := by
 cases o with
 | lst xs => obtain ⟨_, _, _, _, e⟩ := x; exact Heap.lt_size e
 | tup xs => obtain ⟨_, _, _, p⟩ := x; exact p.lt
 | dK kvs => obtain ⟨_, _, _, _, o, _, _, e, _⟩ := x; exact Heap.lt_size e
 | dT kvs => obtain ⟨_, _, _, _, o, _, _, e, _⟩ := x; exact Heap.lt_size e
 | set S n => obtain ⟨o, _, _, _, e, _⟩ := x; exact Heap.lt_size e
 | ins C dx fs => obtain ⟨_, _, _, e, _⟩ := x; exact Heap.lt_size e
 | own y => obtain ⟨_, e⟩ := x; exact Heap.lt_size e
 | xd fs => obtain ⟨_, ⟨_, _, _, e, _⟩, _⟩ := x; exact Heap.lt_size e
 | rng lo hi => obtain ⟨_, _, _, e⟩ := x; exact Heap.lt_size e
 | frz ob u => obtain ⟨e, _⟩ := x; exact Heap.lt_size e
 | tbl ps => exact Heap.lt_size (show h.get? a = some _ from x)
 | met f y => exact Heap.lt_size (show h.get? a = some _ from x)
 | ext φ => obtain ⟨_, ⟨_, e⟩, _⟩ := x; exact Heap.lt_size e
theorem Paired.mapP {α β : Type} {F G : α → β → Prop} : ∀ {l₁ : List α} {l₂ : List β}, Paired F l₁ l₂ → (∀ a b, F a b → G a b) → Paired G l₁ l₂
 | _, _, .nil, _ => .nil
 | _, _, .cons r t, f => .cons (f _ _ r) (Paired.mapP t f)
theorem ObjOk.stay (x : ObjOk P w H h a o) (k : ∀ b u, (b = a ∨ H b = some (.own a)) → h.get? b = some u → h'.get? b = some u)
 (ho : ∀ b, H b = some (.own a) → H' b = some (.own a)) (ht : ∀ b xs, H b = some (.tup xs) → H' b = some (.tup xs)) : ObjOk P w H' h' a o := by
 induction o with
 | lst xs => obtain ⟨z, its, n, r, e⟩ := x; exact ⟨z, its, n, r, k _ _ (.inl rfl) e⟩
 | tup xs => obtain ⟨z, its, r, ob, e, c⟩ := x; exact ⟨z, its, r, ob, k _ _ (.inl rfl) e, c⟩
 | dK kvs => obtain ⟨z, y, vs, r, ob, es, ep, e, c⟩ := x; exact ⟨z, y, vs, r, ob, es, ep, k _ _ (.inl rfl) e, c⟩
 | dT kvs =>
  obtain ⟨z, y, xs, r, ob, es, ep, e, c⟩ := x
  exact ⟨z, y, xs, Paired.mapP r fun p q z => ⟨z.1, ht _ _ z.2.1, z.2.2⟩, ob, es, ep, k _ _ (.inl rfl) e, c⟩
 | set S n => obtain ⟨ob, es, ep, t, e, c⟩ := x; exact ⟨ob, es, ep, t, k _ _ (.inl rfl) e, c⟩
 | ins C dx fs =>
  obtain ⟨d, z, ne, e, mA, ⟨od, es, ep, e2, c⟩, r⟩ := x
  exact ⟨ho _ d, z, ne, k _ _ (.inl rfl) e, mA, ⟨od, es, ep, k _ _ (.inr d) e2, c⟩, r⟩
 | own y => obtain ⟨ob, e⟩ := x; exact ⟨ob, k _ _ (.inl rfl) e⟩
 | xd fs => obtain ⟨mA, ⟨od, es, ep, e, c⟩, r⟩ := x; exact ⟨mA, ⟨od, es, ep, k _ _ (.inl rfl) e, c⟩, r⟩
 | rng lo hi => obtain ⟨t, u, v, e⟩ := x; exact ⟨t, u, v, k _ _ (.inl rfl) e⟩
 | frz ob u ih => obtain ⟨e, q⟩ := x; exact ⟨k _ _ (.inl rfl) e, ih q⟩
 | tbl ps =>
  have e : h.get? a = some { cls := .none, data := .fields ps } := x
  show h'.get? a = some { cls := .none, data := .fields ps }
  exact k a _ (.inl rfl) e
 | met f y =>
  have e : h.get? a = some (PySem.W.methodObj (.ref f) (.ref y)) := x
  show h'.get? a = some (PySem.W.methodObj (.ref f) (.ref y))
  exact k a _ (.inl rfl) e
 | ext φ => obtain ⟨p, ⟨o, e⟩, st⟩ := x; exact ⟨st _ _ p fun o q => k _ _ (.inl rfl) q, ⟨o, k _ _ (.inl rfl) e⟩, st⟩
theorem HOk.lt (x : HOk P w H h) (e : H a = some o) : a < h.objs.size := (x a o e).lt
theorem HOk.fresh (x : HOk P w H h) (e : h.objs.size ≤ a) : H a = none := by
 cases q : H a with
 | none => rfl
 | some u => exact absurd (Nat.lt_of_lt_of_le (x.lt q) e) (Nat.lt_irrefl _)
theorem HOk.kept (x : HOk P w H h) (k : ∀ b u, h.get? b = some u → h'.get? b = some u) : HOk P w H h' := fun a o e =>
 (x a o e).stay (fun b u _ q => k b u q) (fun _ q => q) fun _ _ q => q
theorem HOk.laid (x : HOk P w H h) (k : ∀ b u, h.get? b = some u → h'.get? b = some u) (hp : h.objs.size ≤ a) (new : ObjOk P w (upd H a o) h' a o) : HOk P w (upd H a o) h' := fun b u e => by
 have hn := x.fresh hp
 by_cases hb : b = a
 · subst hb; rw [ai] at e; cases e; exact new
 · rw [ao hb] at e
   exact (x b u e).stay (fun c v _ q => k c v q) (fun c q => by rw [ao (am q hn)]; exact q) fun c xs q => by rw [ao (am q hn)]; exact q
end
def Rd (H : Hp) (a : Addr) (u : HO) : Prop := H a = some u ∨ ∃ o, H a = some (.frz o u)
theorem Rd.of {H : Hp} {a : Addr} {u : HO} (h : H a = some u) : Rd H a u := .inl h
theorem Rd.ok {P : Program} {w : World} {H : Hp} {h : Heap} {a : Addr} {u : HO} (r : Rd H a u) (x : HOk P w H h) : ObjOk P w H h a u := by
 rcases r with r | ⟨o, r⟩
 · exact x a u r
 · obtain ⟨_, q⟩ := x a _ r
   exact q
def Mut : Option HO → Prop
 | some (.lst _) => True
 | some (.dK _) => True
 | some (.dT _) => True
 | some (.set _ _) => True
 | some (.ins _ _ _) => True
 | some (.ext _) => True
 | _ => False
section
variable {P : Program} {w : World} {H : Hp} {h h' : Heap} {x e : Addr} {o' : HO}
theorem HOk.write (ok : HOk P w H h) (mu : Mut (H x)) (he : e = x ∨ H e = some (.own x)) (k : ∀ b u, b ≠ e → h.get? b = some u → h'.get? b = some u) (heo : ∃ u, h'.get? e = some u)
 (new : ObjOk P w (upd H x o') h' x o') : HOk P w (upd H x o') h' := fun b u q => by
 have nown : ∀ c y, H c = some (.own y) → c ≠ x := fun c y r z => by subst z; rw [r] at mu; exact mu
 have ntup : ∀ c xs, H c = some (.tup xs) → c ≠ x := fun c xs r z => by subst z; rw [r] at mu; exact mu
 by_cases hb : b = x
 · subst hb; rw [ai] at q; cases q; exact new
 · rw [ao hb] at q
   by_cases hbe : b = e
   · have q' : H b = some (.own x) := by
      rcases he with z | z
      · exact absurd (hbe.trans z) hb
      · rw [hbe]; exact z
     rw [q] at q'; cases q'
     obtain ⟨v, hv⟩ := heo
     exact ⟨v, by rw [hbe]; exact hv⟩
   · refine (ok b u q).stay (fun c v hc r => k c v ?_ r) (fun c r => by rw [ao (nown c b r)]; exact r) fun c xs r => by rw [ao (ntup c xs r)]; exact r
     rcases hc with rfl | hc
     · exact hbe
     · rintro rfl
       rcases he with z | z
       · exact nown c b hc z
       · rw [hc] at z; cases z; exact hb rfl
end
structure Un (fs ex : List Addr) (H H' : Hp) (h h' : Heap) : Prop where
 keep : ∀ b o, h.get? b = some o → H b = none → b ∉ fs → b ∉ ex → h'.get? b = some o
 slot : ∀ b o, h.get? b = some o → H b = none → b ∈ fs → b ∉ ex → ∃ sl, h'.get? b = some { o with slots := sl }
 free : ∀ b o, h.get? b = some o → H b = none → b ∉ ex → H' b = none
 there : ∀ b o, h.get? b = some o → b ∉ ex → ∃ o', h'.get? b = some o'
 tups : ∀ b xs, H b = some (.tup xs) → H' b = some (.tup xs)
 frzs : ∀ b o u, H b = some (.frz o u) → H' b = some (.frz o u)
 tbls : ∀ b ps, H b = some (.tbl ps) → ∃ more, H' b = some (.tbl (ps ++ more))
section
variable {fs fs' ex ex' : List Addr} {H H1 H2 : Hp} {h h1 h2 h' : Heap} {a x e : Addr} {o : HO}
theorem Un.any (u : Un fs ex H H1 h h1) {b : Addr} {ob : Obj} (q : h.get? b = some ob) (n : H b = none) (hx : b ∉ ex) : ∃ sl, h1.get? b = some { ob with slots := sl } := by
 by_cases hb : b ∈ fs
 · exact u.slot b ob q n hb hx
 · exact ⟨ob.slots, u.keep b ob q n hb hx⟩
theorem Un.trans (a : Un fs ex H H1 h h1) (b : Un fs ex H1 H2 h1 h2) : Un fs ex H H2 h h2 where
 keep := fun c ob q n hc hx => b.keep c ob (a.keep c ob q n hc hx) (a.free c ob q n hx) hc hx
 slot := fun c ob q n hc hx => by
  obtain ⟨sl, e1⟩ := a.slot c ob q n hc hx
  obtain ⟨sl', e2⟩ := b.slot c _ e1 (a.free c ob q n hx) hc hx
  exact ⟨sl', e2⟩
 free := fun c ob q n hx => by
  obtain ⟨o', e1⟩ := a.there c ob q hx
  exact b.free c o' e1 (a.free c ob q n hx) hx
 there := fun c ob q hx => by
  obtain ⟨o', e1⟩ := a.there c ob q hx
  exact b.there c o' e1 hx
 tups := fun c xs q => b.tups c xs (a.tups c xs q)
 frzs := fun c ob xs q => b.frzs c ob xs (a.frzs c ob xs q)
 tbls := fun c ps q => by
  obtain ⟨m1, e1⟩ := a.tbls c ps q
  obtain ⟨m2, e2⟩ := b.tbls c _ e1
  exact ⟨m1 ++ m2, by rw [e2, Array.append_assoc]⟩
theorem Un.kept (k : ∀ b u, h.get? b = some u → h'.get? b = some u) : Un fs ex H H h h' :=
 ⟨fun b ob q _ _ _ => k b ob q, fun b ob q _ _ _ => ⟨ob.slots, k b ob q⟩, fun _ _ _ n _ => n, fun b ob q _ => ⟨ob, k b ob q⟩, fun _ _ q => q, fun _ _ _ q => q, fun _ ps q => ⟨#[], by rw [q]; simp⟩⟩
theorem Un.refl : Un fs ex H H h h := Un.kept fun _ _ q => q
theorem Un.laid (k : ∀ b u, h.get? b = some u → h'.get? b = some u) (hp : h.objs.size ≤ a) (hn : H a = none) : Un fs ex H (upd H a o) h h' where
 keep := fun b u q _ _ _ => k b u q
 slot := fun b u q _ _ _ => ⟨u.slots, k b u q⟩
 free := fun b u q n _ => by rw [ao (Nat.ne_of_lt (Nat.lt_of_lt_of_le (Heap.lt_size q) hp))]; exact n
 there := fun b u q _ => ⟨u, k b u q⟩
 tups := fun b xs q => by rw [ao (am q hn)]; exact q
 frzs := fun b u xs q => by rw [ao (am q hn)]; exact q
 tbls := fun b ps q => ⟨#[], by rw [ao (am q hn), q]; simp⟩
theorem Un.write (mu : Mut (H x)) (he : e = x ∨ H e = some (.own x)) (k : ∀ b u, b ≠ e → h.get? b = some u → h'.get? b = some u) (heo : ∃ u, h'.get? e = some u) : Un fs ex H (upd H x o) h h' := by
 have hx : ∀ b, H b = none → b ≠ x := fun b n z => by subst z; rw [n] at mu; exact mu
 have hb : ∀ b, H b = none → b ≠ e := fun b n z => by
  subst z
  rcases he with r | r
  · exact hx b n r
  · rw [n] at r; cases r
 have hm : ∀ b u, H b = some u → ¬ Mut (some u) → b ≠ x := fun b u q nm z => by subst z; rw [q] at mu; exact nm mu
 refine ⟨fun b u q n _ _ => k b u (hb b n) q, fun b u q n _ _ => ⟨u.slots, k b u (hb b n) q⟩, fun b u q n _ => by rw [ao (hx b n)]; exact n, fun b u q _ => ?_,
  fun b xs q => by rw [ao (hm b _ q fun z => z)]; exact q, fun b u xs q => by rw [ao (hm b _ q fun z => z)]; exact q, fun b ps q => ⟨#[], by rw [ao (hm b _ q fun z => z), q]; simp⟩⟩
 by_cases hbe : b = e
 · subst hbe; exact heo
 · exact ⟨u, k b u hbe q⟩
theorem Un.mono (u : Un fs ex H H1 h h1) (hs : ∀ b ∈ fs, b ∈ fs') (hx : ∀ b ∈ ex, b ∈ ex') : Un fs' ex' H H1 h h1 :=
 ⟨fun b ob q n hb he => u.keep b ob q n (fun z => hb (hs b z)) fun z => he (hx b z), fun _ _ q n _ he => u.any q n fun z => he (hx _ z), fun b ob q n he => u.free b ob q n fun z => he (hx b z), fun b ob q he => u.there b ob q fun z => he (hx b z), u.tups, u.frzs, u.tbls⟩
end
def trk (h : Heap) (H : Hp) : List Addr := (List.range h.objs.size).filter fun a => (H a).isSome
def sx (h : Heap) (H : Hp) : Heap := PySem.W.hideAll h (trk h H)
theorem oR (h : Heap) (H : Hp) : (sx h H).objs.size = h.objs.size := PySem.W.hideAll_size _ _
theorem sy {h : Heap} {H : Hp} {b : Addr} {o : Obj} (e : h.get? b = some o) (n : H b = none) : (sx h H).get? b = some o :=
 PySem.W.hideAll_get _ e fun hm => by
  have q : (H b).isSome = true := (List.mem_filter.mp hm).2
  rw [n] at q; simp at q
theorem vo {h : Heap} {H : Hp} {b : Addr} {o : Obj} (e : (sx h H).get? b = some o) : h.get? b = some o ∧ H b = none := by
 have e' : h.get? b = some o := PySem.W.of_hideAll (trk h H) e
 refine ⟨e', ?_⟩
 cases q : H b with
 | none => rfl
 | some x =>
  have hm : b ∈ trk h H := List.mem_filter.mpr ⟨List.mem_range.mpr (Heap.lt_size e'), by simp [q]⟩
  have z : (sx h H).get? b = none := PySem.W.hideAll_none (trk h H) hm
  rw [z] at e; cases e
def vp (g h : Heap) (L : Addr) : List (Addr × Obj) := (List.range h.objs.size).filterMap fun a => if a = L ∨ (g.get? a).isSome = true then none else (h.get? a).map fun o => (a, o)
def rest (g h : Heap) (L d : Addr) : List (Addr × Obj) := (vp g h L).filter fun p => decide (p.1 ≠ d)
structure Mod (K : PySem.W.Frag) (mg : Str → Option Value) (base : Heap) : Prop where
 kin : K.In base
 glob : base.Ns mainGlobals mg
 blt : ∃ mb, base.Ns builtinsNs mb ∧ ∀ x : Str, x ≠ "__name__" → mb x = bootBuiltins x
 nolimit : base.NoLimit
structure Cx where
 prog : Program
 w : World
 K : PySem.W.Frag
 mg : Str → Option Value
 base : Heap
 A : Around
 N : List Str
 s₀ : Shared
 H₀ : Hp
 env : Env
 outer : List Env
 stack : List Env
 ex : List Addr
 fn : Str → Bool
 calm : Bool
 pn : List (Addr × Obj)
 xe : Value → Shared → Prop
def frs (l : List Env) : List Addr := l.filterMap (·.frame)
abbrev Cx.fs (X : Cx) : List Addr := frs X.outer
def Vis (sc : Scope) (x : Str) : Prop := sc.names.lookup x = some .local ∨ sc.names.lookup x = some .cell ∨ sc.names.lookup x = some .free
def Loc (sc : Scope) (x : Str) : Prop := sc.names.lookup x = some .local ∨ sc.names.lookup x = some .cell
def DD (env : Env) (h : Heap) (m : Str → Option Value) (x : Str) (u : Value) : Prop :=
 (env.kindOf x = some .local ∧ m x = some u) ∨ ((env.kindOf x = some .cell ∨ env.kindOf x = some .free) ∧ ∃ c, env.cells.lookup x = some c ∧ h.IsCell c (some u))
structure Cx.Ok (X : Cx) : Prop where
 mod : Mod X.K X.mg X.base
 kind : X.env.scope.kind = .function
 glob : X.env.globals = mainGlobals
 blt : X.env.builtins = builtinsNs
 above : X.s₀.heap.objs.size ≤ X.env.locals
 inj : ∀ x y c, X.env.cells.lookup x = some c → X.env.cells.lookup y = some c → x = y
 has : ∀ x, (X.env.kindOf x = some .cell ∨ X.env.kindOf x = some .free) → ∃ c, X.env.cells.lookup x = some c
 cab : ∀ x c, X.fn x = true → X.env.cells.lookup x = some c → X.s₀.heap.objs.size ≤ c
 hd : X.calm = true → X.A.handled = none
 frames : X.A.frames = some X.stack
 stk : X.stack = X.outer ∨ (X.stack = X.env :: X.outer ∧ X.env.frame = some X.env.locals)
 exf : ∀ b ∈ X.ex, b ≠ X.env.locals ∧ ∀ x c, X.env.cells.lookup x = some c → c ≠ b
 bs : ∀ b o, X.base.get? b = some o → X.s₀.heap.get? b = some o ∧ X.H₀ b = none
 bsz : X.base.objs.size ≤ X.s₀.heap.objs.size
 noex : ∀ b o, X.base.get? b = some o → b ∉ X.ex
 exfs : ∀ b ∈ X.ex, b ∉ X.fs
 funs : X.s₀.heap.FunFrames X.base X.outer
 frf : ∀ b ∈ X.fs, X.H₀ b = none
structure Inv (X : Cx) (pins : List (Addr × Obj)) (σ : List (Option V)) (H : Hp) (s : Shared) : Prop where
 ok : X.Ok
 os : s.os = X.s₀.os
 bare : AllBare s.gens
 base : Un X.fs X.ex X.H₀ H X.s₀.heap s.heap
 loc : ∃ m, s.heap.Ns X.env.locals m ∧ ∀ (i : Nat) (x : Str) (v : V), X.N[i]? = some x → σ[i]? = some (some v) → Vis X.env.scope x → ∃ u, RelV v u ∧ DD X.env s.heap m x u
 cell : ∀ x c, X.env.cells.lookup x = some c → ∃ v, s.heap.IsCell c v
 free : H X.env.locals = none
 freeC : ∀ x c, X.env.cells.lookup x = some c → H c = none
 pin : ∀ p ∈ X.pn ++ pins, s.heap.get? p.1 = some p.2 ∧ H p.1 = none ∧ p.1 ≠ X.env.locals ∧ p.1 ∉ X.fs ∧ ∀ v, p.2.data ≠ .cell v
 hok : HOk X.prog X.w H s.heap
 len : σ.length = X.N.length
section
variable {X : Cx} {pins : List (Addr × Obj)} {σ : List (Option V)} {H H' : Hp} {s : Shared} {h' : Heap}
theorem Cx.Ok.nofr (ok : X.Ok) {b : Addr} {o : Obj} (e : X.base.get? b = some o) : b ∉ X.fs := fun hb => by
 have := (ok.funs.mem hb).1
 rw [e] at this; cases this
theorem Inv.bs (I : Inv X pins σ H s) : ∀ b o, X.base.get? b = some o → s.heap.get? b = some o ∧ H b = none := fun b o e =>
 ⟨I.base.keep b o (I.ok.bs b o e).1 (I.ok.bs b o e).2 (I.ok.nofr e) (I.ok.noex b o e), I.base.free b o (I.ok.bs b o e).1 (I.ok.bs b o e).2 (I.ok.noex b o e)⟩
theorem Inv.bk (I : Inv X pins σ H s) : ∀ b o, X.base.get? b = some o → s.heap.get? b = some o := fun b o e => (I.bs b o e).1
theorem Inv.mod (I : Inv X pins σ H s) : Mod X.K X.mg X.base := I.ok.mod
theorem Inv.kIn (I : Inv X pins σ H s) : X.K.In s.heap := I.ok.mod.kin.keeps I.bk
theorem Inv.nolimit (I : Inv X pins σ H s) : s.heap.NoLimit := I.ok.mod.nolimit.keeps I.bk
theorem Inv.fr (I : Inv X pins σ H s) : ∃ m, Fr X.base X.env.locals s.heap m :=
 let ⟨m, hn, _⟩ := I.loc
 ⟨m, hn, I.bk, Nat.le_trans I.ok.bsz I.ok.above⟩
theorem Inv.lt (I : Inv X pins σ H s) : X.env.locals < s.heap.objs.size := let ⟨_, hn, _⟩ := I.loc; hn.lt
theorem Inv.sz (I : Inv X pins σ H s) : X.s₀.heap.objs.size ≤ s.heap.objs.size := Nat.le_trans I.ok.above (Nat.le_of_lt I.lt)
theorem Inv.nofs (I : Inv X pins σ H s) {a : Addr} (h : s.heap.objs.size ≤ a) : a ∉ X.fs := fun hb => by
 obtain ⟨_, o, ho, _⟩ := I.ok.funs.mem hb
 exact absurd (Nat.lt_of_lt_of_le (Heap.lt_size ho) (Nat.le_trans I.sz h)) (Nat.lt_irrefl _)
theorem Inv.cne (I : Inv X pins σ H s) : ∀ x c, X.env.cells.lookup x = some c → c ≠ X.env.locals := fun x c e z => by
 obtain ⟨v, o, ho, hd⟩ := I.cell x c e
 obtain ⟨m, ⟨o', es, ep, ho', hd', _⟩, _⟩ := I.loc
 rw [z, ho'] at ho; cases ho; rw [hd'] at hd; cases hd
theorem Inv.funs (I : Inv X pins σ H s) : s.heap.FunFrames X.base X.outer := by
 have all : ∀ (l : List Env), (∀ b ∈ frs l, b ∈ X.fs) → X.s₀.heap.FunFrames X.base l → s.heap.FunFrames X.base l := by
  intro l
  induction l with
  | nil => intro _ _; trivial
  | cons env r ih =>
   intro hs hl
   obtain ⟨hk, ⟨L, o, hf, hn, ho, hd⟩, hr⟩ := hl
   have hL : L ∈ X.fs := hs L (by unfold frs; rw [List.filterMap_cons, hf]; exact List.mem_cons_self)
   obtain ⟨sl, e⟩ := I.base.slot L o ho (I.ok.frf L hL) hL fun z => I.ok.exfs L z hL
   exact ⟨hk, ⟨L, _, hf, hn, e, hd⟩, ih (fun b hb => hs b (by unfold frs; rw [List.filterMap_cons, hf]; exact List.mem_cons_of_mem _ hb)) hr⟩
 exact all X.outer (fun _ hb => hb) I.ok.funs
theorem Inv.stack (I : Inv X pins σ H s) : s.heap.FunFrames X.base X.stack := by
 rcases I.ok.stk with e | ⟨e, hf⟩
 · rw [e]; exact I.funs
 · rw [e]
   obtain ⟨m, hn, _⟩ := I.loc
   refine .cons (by rw [I.ok.kind]; decide) hf hn ?_ I.funs
   exact Heap.get?_none_of_le (Nat.le_trans I.ok.bsz I.ok.above)
theorem Inv.stkSub (I : Inv X pins σ H s) : ∀ b ∈ frs X.stack, b ∈ X.env.locals :: X.fs := fun b hb => by
 rcases I.ok.stk with e | ⟨e, hf⟩
 · rw [e] at hb; exact List.mem_cons_of_mem _ hb
 · rw [e] at hb
   unfold frs at hb
   rw [List.filterMap_cons, hf] at hb
   exact hb
theorem Inv.stkFree (I : Inv X pins σ H s) : ∀ b ∈ frs X.stack, H b = none := fun b hb => by
 rcases List.mem_cons.mp (I.stkSub b hb) with e | hb
 · rw [e]; exact I.free
 · obtain ⟨_, o, ho, _⟩ := I.ok.funs.mem hb
   exact I.base.free b o ho (I.ok.frf b hb) fun z => I.ok.exfs b z hb
theorem Inv.step {g' : Array GenState} {t' : Nat} {d' : Drawn} {ch : List Addr} (I : Inv X pins σ H s)
 (hch : ∀ b ∈ ch, (b ∈ X.ex ∨ X.s₀.heap.objs.size ≤ b) ∧ b ≠ X.env.locals ∧ (∀ x c, X.env.cells.lookup x = some c → c ≠ b) ∧ ∀ p ∈ X.pn ++ pins, p.1 ≠ b)
 (keep : ∀ b o, b ≠ X.env.locals → b ∉ X.fs → b ∉ ch → s.heap.get? b = some o → H b = none → h'.get? b = some o)
 (slot : ∀ b o, b ≠ X.env.locals → b ∈ X.fs → b ∉ ch → s.heap.get? b = some o → H b = none → ∃ sl, h'.get? b = some { o with slots := sl }) (free : ∀ b o, b ∉ ch → s.heap.get? b = some o → H b = none → H' b = none)
 (there : ∀ b o, b ∉ ch → s.heap.get? b = some o → ∃ o', h'.get? b = some o')
 (tups : ∀ b xs, H b = some (.tup xs) → H' b = some (.tup xs)) (frzs : ∀ b o u, H b = some (.frz o u) → H' b = some (.frz o u)) (tbls : ∀ b ps, H b = some (.tbl ps) → ∃ more, H' b = some (.tbl (ps ++ more)))
 (ns : ∀ m, s.heap.Ns X.env.locals m → h'.Ns X.env.locals m) (hok : HOk X.prog X.w H' h') (hg : AllBare g') :
 Inv X pins σ H' { s with heap := h', gens := g', drawn := d', toks := t' } := by
 have neL : ∀ b o, X.s₀.heap.get? b = some o → b ≠ X.env.locals := fun b o e => Nat.ne_of_lt (Nat.lt_of_lt_of_le (Heap.lt_size e) I.ok.above)
 have neC : ∀ b o, X.s₀.heap.get? b = some o → b ∉ X.ex → b ∉ ch := fun b o e hx hb => by
  rcases (hch b hb).1 with z | z
  · exact hx z
  · exact absurd (Nat.lt_of_lt_of_le (Heap.lt_size e) z) (Nat.lt_irrefl _)
 have cellK : ∀ x c, X.env.cells.lookup x = some c → ∀ v, s.heap.IsCell c v → h'.IsCell c v := fun x c e v ⟨o, ho, hd⟩ => by
  have nch : c ∉ ch := fun z => (hch c z).2.2.1 x c e rfl
  by_cases hc : c ∈ X.fs
  · obtain ⟨sl, q⟩ := slot c o (I.cne x c e) hc nch ho (I.freeC x c e)
    exact ⟨_, q, hd⟩
  · exact ⟨o, keep c o (I.cne x c e) hc nch ho (I.freeC x c e), hd⟩
 refine ⟨I.ok, I.os, hg, ⟨fun b o e n hb hx => ?_, fun b o e n hb hx => ?_, fun b o e n hx => ?_, fun b o e hx => ?_, fun b xs e => tups b xs (I.base.tups b xs e), fun b o xs e => frzs b o xs (I.base.frzs b o xs e), fun b ps e => ?_⟩, ?_, fun x c e => ?_, ?_, fun x c e => ?_, fun p hp => ?_, hok, I.len⟩
 · exact keep b o (neL b o e) hb (neC b o e hx) (I.base.keep b o e n hb hx) (I.base.free b o e n hx)
 · obtain ⟨sl, e1⟩ := I.base.slot b o e n hb hx
   obtain ⟨sl', e2⟩ := slot b _ (neL b o e) hb (neC b o e hx) e1 (I.base.free b o e n hx)
   exact ⟨sl', e2⟩
 · obtain ⟨o', e1⟩ := I.base.there b o e hx
   exact free b o' (neC b o e hx) e1 (I.base.free b o e n hx)
 · obtain ⟨o', e1⟩ := I.base.there b o e hx
   exact there b o' (neC b o e hx) e1
 · obtain ⟨m1, e1⟩ := I.base.tbls b ps e
   obtain ⟨m2, e2⟩ := tbls b _ e1
   exact ⟨m1 ++ m2, by rw [e2, Array.append_assoc]⟩
 · obtain ⟨m, hn, hl⟩ := I.loc
   refine ⟨m, ns m hn, fun i x v e1 e2 e3 => ?_⟩
   obtain ⟨u, r, l⟩ := hl i x v e1 e2 e3
   refine ⟨u, r, ?_⟩
   rcases l with l | ⟨k, c, e, z⟩
   · exact .inl l
   · exact .inr ⟨k, c, e, cellK x c e _ z⟩
 · obtain ⟨v, z⟩ := I.cell x c e
   exact ⟨v, cellK x c e v z⟩
 · obtain ⟨m, ⟨o, _, _, ho, _⟩, _⟩ := I.loc
   exact free _ o (fun z => (hch _ z).2.1 rfl) ho I.free
 · obtain ⟨v, o, ho, hd⟩ := I.cell x c e
   exact free c o (fun z => (hch c z).2.2.1 x c e rfl) ho (I.freeC x c e)
 · obtain ⟨e, n, ne, nf, d⟩ := I.pin p hp
   have nch : p.1 ∉ ch := fun z => (hch p.1 z).2.2.2 p hp rfl
   exact ⟨keep p.1 p.2 ne nf nch e n, free p.1 p.2 nch e n, ne, nf, d⟩
theorem Inv.un {t' : Nat} (I : Inv X pins σ H s) (u : Un X.fs [] H H' s.heap h') (hok : HOk X.prog X.w H' h') : Inv X pins σ H' { s with heap := h', toks := t' } := by
 obtain ⟨m, ⟨o, es, ep, ho, r⟩, _⟩ := id I.loc
 obtain ⟨sl, hL⟩ := u.any ho I.free (by simp)
 exact I.step (g' := s.gens) (d' := s.drawn) (ch := []) (fun _ z => nomatch z) (fun b o _ hb _ e n => u.keep b o e n hb (by simp)) (fun b o _ hb _ e n => u.slot b o e n hb (by simp)) (fun b o _ e n => u.free b o e n (by simp)) (fun b o _ e => u.there b o e (by simp)) u.tups u.frzs u.tbls (fun m' hm => by
  obtain ⟨o', es', ep', ho', r'⟩ := hm
  rw [ho] at ho'; cases ho'
  exact ⟨_, es', ep', hL, r'⟩) hok I.bare
theorem Inv.call {g' : Array GenState} {t' : Nat} {d' : Drawn} {ch : List Addr} (I : Inv X pins σ H s) (u : Un (frs X.stack) ch H H' s.heap h') (hok : HOk X.prog X.w H' h') (hg : AllBare g')
 (hch : ∀ b ∈ ch, (b ∈ X.ex ∨ X.s₀.heap.objs.size ≤ b) ∧ b ≠ X.env.locals ∧ (∀ x c, X.env.cells.lookup x = some c → c ≠ b) ∧ ∀ p ∈ X.pn ++ pins, p.1 ≠ b) :
 Inv X pins σ H' { s with heap := h', gens := g', drawn := d', toks := t' } := by
 obtain ⟨m, ⟨o, es, ep, ho, r⟩, _⟩ := id I.loc
 obtain ⟨sl, hL⟩ := u.any ho I.free fun z => (hch _ z).2.1 rfl
 exact I.step (ch := ch) hch (fun b o hL hb hc e n => u.keep b o e n (fun z => (List.mem_cons.mp (I.stkSub b z)).elim hL hb) hc) (fun b o _ _ hc e n => u.any e n hc) (fun b o hc e n => u.free b o e n hc) (fun b o hc e => u.there b o e hc) u.tups u.frzs u.tbls (fun m' hm => by
  obtain ⟨o', es', ep', ho', r'⟩ := hm
  rw [ho] at ho'; cases ho'
  exact ⟨_, es', ep', hL, r'⟩) hok hg
theorem Inv.turned {t' : Nat} {it : Addr} (I : Inv X pins σ H s) (k : ∀ b o, b ≠ it → s.heap.get? b = some o → h'.get? b = some o) (hn : H it = none) (hL : it ≠ X.env.locals)
 (h1 : it ∈ X.ex ∨ X.s₀.heap.objs.size ≤ it) (h2 : ∀ x c, X.env.cells.lookup x = some c → c ≠ it) (h3 : ∀ p ∈ X.pn ++ pins, p.1 ≠ it) : Inv X pins σ H { s with heap := h', toks := t' } := by
 have nit : ∀ b u, H b = some u → b ≠ it := fun b u e z => by rw [z, hn] at e; cases e
 refine I.step (g' := s.gens) (d' := s.drawn) (ch := [it]) (fun b hb => ?_) (fun b o _ _ hc e _ => k b o (fun z => hc (by simp [z])) e) (fun b o _ _ hc e _ => ⟨o.slots, k b o (fun z => hc (by simp [z])) e⟩) (fun _ _ _ _ n => n)
  (fun b o hc e => ⟨o, k b o (fun z => hc (by simp [z])) e⟩) (fun _ _ e => e) (fun _ _ _ e => e) (fun b ps e => ⟨#[], by rw [e]; simp⟩) (fun m hm => ?_) (fun b u e => ?_) I.bare
 · have e : b = it := by simpa using hb
   subst e
   exact ⟨h1, hL, h2, h3⟩
 · obtain ⟨o, es, ep, ho, r⟩ := hm
   exact ⟨o, es, ep, k _ o (Ne.symm hL) ho, r⟩
 · refine (I.hok b u e).stay (fun c v hc q => k c v ?_ q) (fun _ q => q) fun _ _ q => q
   rcases hc with z | z
   · rw [z]; exact nit b u e
   · exact nit c _ z
theorem Inv.tok (I : Inv X pins σ H s) (t : Nat) : Inv X pins σ H { s with toks := t } := I.un (h' := s.heap) (t' := t) Un.refl I.hok
theorem Inv.kept {t' : Nat} (I : Inv X pins σ H s) (k : ∀ b u, s.heap.get? b = some u → h'.get? b = some u) : Inv X pins σ H { s with heap := h', toks := t' } := I.un (Un.kept k) (I.hok.kept k)
theorem Inv.laid {a : Addr} {o : HO} {t' : Nat} (I : Inv X pins σ H s) (k : ∀ b u, s.heap.get? b = some u → h'.get? b = some u) (hp : s.heap.objs.size ≤ a) (new : ObjOk X.prog X.w (upd H a o) h' a o) :
 Inv X pins σ (upd H a o) { s with heap := h', toks := t' } := I.un (Un.laid k hp (I.hok.fresh hp)) (I.hok.laid k hp new)
theorem Inv.write {x e : Addr} {o : HO} {t' : Nat} (I : Inv X pins σ H s) (mu : Mut (H x)) (he : e = x ∨ H e = some (.own x)) (k : ∀ b u, b ≠ e → s.heap.get? b = some u → h'.get? b = some u) (heo : ∃ u, h'.get? e = some u)
 (new : ObjOk X.prog X.w (upd H x o) h' x o) : Inv X pins σ (upd H x o) { s with heap := h', toks := t' } := I.un (Un.write mu he k heo) (I.hok.write mu he k heo new)
theorem Inv.pins_of {pins' : List (Addr × Obj)} (I : Inv X pins σ H s) (h : ∀ p ∈ pins', s.heap.get? p.1 = some p.2 ∧ H p.1 = none ∧ p.1 ≠ X.env.locals ∧ p.1 ∉ X.fs ∧ ∀ v, p.2.data ≠ .cell v) : Inv X pins' σ H s :=
 ⟨I.ok, I.os, I.bare, I.base, I.loc, I.cell, I.free, I.freeC, fun p hp => (List.mem_append.mp hp).elim (fun z => I.pin p (List.mem_append_left _ z)) (h p), I.hok, I.len⟩
theorem mC {N : List Str} (hN : N.Nodup) {i j : Nat} {x : Str} (a : N[i]? = some x) (b : N[j]? = some x) : i = j := by
 obtain ⟨h1, e1⟩ := List.getElem?_eq_some_iff.mp a
 obtain ⟨h2, e2⟩ := List.getElem?_eq_some_iff.mp b
 exact (List.getElem_inj hN).mp (e1.trans e2.symm)
theorem oU {M : Model} {A : Around} {E : Value → Shared → Prop} {i : Nat} {x : Str} {v : V} {u : Value} {Q : Unit → Shared → Prop} (I : Inv X pins σ H s) (hN : X.N.Nodup) (hi : X.N[i]? = some x) (hx : Loc X.env.scope x) (r : RelV v u)
 (h : ∀ s', Inv X pins (σ.set i (some v)) H s' → (∃ a, Heap.SameBut a s.heap s'.heap ∧ (a = X.env.locals ∨ X.env.cells.lookup x = some a)) → Q () s') (hf : X.fn x = true ∨ X.env.scope.names.lookup x = some .local := by first | exact .inl rfl | exact .inr rfl | assumption) : wpAny M A (storeName X.env x u) Q E s := by
 obtain ⟨m, hn, hl⟩ := id I.loc
 have hcls : (X.env.scope.kind == .class || (X.env.scope.kind == .module && X.env.locals != X.env.globals)) = false := by rw [I.ok.kind]; rfl
 have hiσ : i < σ.length := by rw [I.len]; exact (List.getElem?_eq_some_iff.mp hi).1
 have cne := I.cne
 have tracked : ∀ {a : Addr} {h' : Heap}, (∃ o, s.heap.get? a = some o ∧ H a = none) → Heap.SameBut a s.heap h' → HOk X.prog X.w H h' := fun {a h'} ha hs b ob e => by
  obtain ⟨_, _, hfree⟩ := ha
  refine (I.hok b ob e).stay (fun c w' hc q => (hs.2 c ?_).trans q) (fun _ q => q) fun _ _ q => q
  rintro rfl
  rcases hc with rfl | hc
  · rw [hfree] at e; cases e
  · rw [hfree] at hc; cases hc
 rcases hx with hk | hk
 · refine wpAny_storeName_local hk hn (fun h' hn' hs => ?_) hcls
   obtain ⟨oL, _, _, hoL, _⟩ := id hn
   refine h _ ⟨I.ok, I.os, I.bare, ⟨fun b o e n hb hx => ?_, fun b o e n hb hx => ?_, I.base.free, fun b o e hx => ?_, I.base.tups, I.base.frzs, I.base.tbls⟩, ⟨_, hn', fun j y v' e1 e2 e3 => ?_⟩, fun y c e => ?_, I.free, I.freeC, fun p hp => ?_, tracked ⟨oL, hoL, I.free⟩ hs, by simpa using I.len⟩ ⟨_, hs, .inl rfl⟩
   · exact (hs.2 b (Nat.ne_of_lt (Nat.lt_of_lt_of_le (Heap.lt_size e) I.ok.above))).trans (I.base.keep b o e n hb hx)
   · obtain ⟨sl, e1⟩ := I.base.slot b o e n hb hx
     exact ⟨sl, (hs.2 b (Nat.ne_of_lt (Nat.lt_of_lt_of_le (Heap.lt_size e) I.ok.above))).trans e1⟩
   · obtain ⟨o', e1⟩ := I.base.there b o e hx
     exact ⟨o', (hs.2 b (Nat.ne_of_lt (Nat.lt_of_lt_of_le (Heap.lt_size e) I.ok.above))).trans e1⟩
   · by_cases hj : j = i
     · subst hj
       rw [hi] at e1; cases e1
       rw [List.getElem?_set_self hiσ] at e2
       cases e2
       exact ⟨u, r, .inl ⟨hk, by simp⟩⟩
     · rw [List.getElem?_set_ne (Ne.symm hj)] at e2
       obtain ⟨u', r', q⟩ := hl j y v' e1 e2 e3
       refine ⟨u', r', ?_⟩
       rcases q with ⟨k, e⟩ | ⟨k, c, e, z⟩
       · refine .inl ⟨k, ?_⟩
         have : y ≠ x := fun e => hj (mC hN e1 (e ▸ hi))
         simp [this, e]
       · exact .inr ⟨k, c, e, z.sameBut hs (cne y c e)⟩
   · obtain ⟨w', z⟩ := I.cell y c e
     exact ⟨w', z.sameBut hs (cne y c e)⟩
   · obtain ⟨e, n, ne, nf, d⟩ := I.pin p hp
     exact ⟨(hs.2 p.1 ne).trans e, n, ne, nf, d⟩
 · have hfn : X.fn x = true := by
    rcases hf with z | z
    · exact z
    · rw [z] at hk; cases hk
   obtain ⟨c, hc⟩ := I.ok.has x (.inl hk)
   obtain ⟨w', z⟩ := I.cell x c hc
   refine wpAny_storeName_cell I.ok.kind hk hc z (fun h' hc' hs => ?_)
   obtain ⟨oc, hoc, hocd⟩ := id z
   refine h { s with heap := h' } ⟨I.ok, I.os, I.bare, ⟨fun b o e n hb hx => ?_, fun b o e n hb hx => ?_, I.base.free, fun b o e hx => ?_, I.base.tups, I.base.frzs, I.base.tbls⟩, ⟨m, hn.sameBut hs (Ne.symm (cne x c hc)), fun j y v' e1 e2 e3 => ?_⟩, fun y c' e => ?_, I.free, I.freeC, fun p hp => ?_, tracked ⟨oc, hoc, I.freeC x c hc⟩ hs, by simpa using I.len⟩ ⟨c, hs, .inr hc⟩
   · exact (hs.2 b (Nat.ne_of_lt (Nat.lt_of_lt_of_le (Heap.lt_size e) (I.ok.cab x c hfn hc)))).trans (I.base.keep b o e n hb hx)
   · obtain ⟨sl, e1⟩ := I.base.slot b o e n hb hx
     exact ⟨sl, (hs.2 b (Nat.ne_of_lt (Nat.lt_of_lt_of_le (Heap.lt_size e) (I.ok.cab x c hfn hc)))).trans e1⟩
   · obtain ⟨o', e1⟩ := I.base.there b o e hx
     exact ⟨o', (hs.2 b (Nat.ne_of_lt (Nat.lt_of_lt_of_le (Heap.lt_size e) (I.ok.cab x c hfn hc)))).trans e1⟩
   · by_cases hj : j = i
     · subst hj
       rw [hi] at e1; cases e1
       rw [List.getElem?_set_self hiσ] at e2
       cases e2
       exact ⟨u, r, .inr ⟨.inl hk, c, hc, hc'⟩⟩
     · rw [List.getElem?_set_ne (Ne.symm hj)] at e2
       obtain ⟨u', r', q⟩ := hl j y v' e1 e2 e3
       refine ⟨u', r', ?_⟩
       rcases q with q | ⟨k, c', e, z'⟩
       · exact .inl q
       · refine .inr ⟨k, c', e, z'.sameBut hs ?_⟩
         rintro rfl
         exact hj (mC hN e1 (I.ok.inj _ _ _ e hc ▸ hi))
   · by_cases hcc : c' = c
     · subst hcc; exact ⟨_, hc'⟩
     · obtain ⟨w2, z2⟩ := I.cell y c' e
       exact ⟨w2, z2.sameBut hs hcc⟩
   · obtain ⟨e, n, ne, nf, d⟩ := I.pin p hp
     refine ⟨(hs.2 p.1 ?_).trans e, n, ne, nf, d⟩
     intro q
     rw [q, hoc] at e
     have q' : oc = p.2 := Option.some.inj e
     exact d w' (by rw [← q']; exact hocd)
theorem mD {M : Model} {A : Around} {E : Value → Shared → Prop} {i : Nat} {x : Str} {v : V} {u : Value} {Q : Unit → Shared → Prop} (I : Inv X pins σ H s) (hN : X.N.Nodup) (hi : X.N[i]? = some x) (hx : Loc X.env.scope x) (r : RelV v u)
 (h : ∀ s', Inv X pins (σ.set i (some v)) H s' → Q () s') (hf : X.fn x = true ∨ X.env.scope.names.lookup x = some .local := by first | exact .inl rfl | exact .inr rfl | assumption) : wpAny M A (storeName X.env x u) Q E s :=
 oU I hN hi hx r (fun s' I' _ => h s' I') hf
theorem Inv.call' {s' : Shared} {ch : List Addr} (I : Inv X pins σ H s) (ho : s'.os = s.os) (u : Un (frs X.stack) ch H H' s.heap s'.heap) (hok : HOk X.prog X.w H' s'.heap) (hg : AllBare s'.gens)
 (hch : ∀ b ∈ ch, (b ∈ X.ex ∨ X.s₀.heap.objs.size ≤ b) ∧ b ≠ X.env.locals ∧ (∀ x c, X.env.cells.lookup x = some c → c ≠ b) ∧ ∀ p ∈ X.pn ++ pins, p.1 ≠ b) : Inv X pins σ H' s' := by
 obtain ⟨h', g', d', t', o'⟩ := s'
 have e : o' = s.os := ho
 subst e
 exact I.call (g' := g') (t' := t') (d' := d') u hok hg hch
end
abbrev XK := Value → Option Addr → Hp → Prop
abbrev St := List (Option V)
abbrev VK := V → Hp → Prop
abbrev TE := St → Hp → VK → Prop
abbrev TT := St → Hp → (Bool → Hp → Prop) → Prop
abbrev TA := St → Hp → (List V → Hp → Prop) → Prop
structure oM where
 nx : St → Hp → Prop
 rt : VK
 bk : St → Hp → Prop := fun _ _ => False
 ct : St → Hp → Prop := fun _ _ => False
abbrev TS := oM → St → Hp → Prop
def EP (X : Cx) (pins : List (Addr × Obj)) (σ : St) (Q : VK) (u : Value) (s' : Shared) : Prop := ∃ v H', Inv X pins σ H' s' ∧ RelV v u ∧ Q v H'
def TP (X : Cx) (pins : List (Addr × Obj)) (σ : St) (Q : Bool → Hp → Prop) (b : Bool) (s' : Shared) : Prop := ∃ H', Inv X pins σ H' s' ∧ Q b H'
def AP (X : Cx) (pins : List (Addr × Obj)) (σ : St) (Q : List V → Hp → Prop) (us : List Value) (s' : Shared) : Prop := ∃ vs H', Inv X pins σ H' s' ∧ Vals vs us ∧ Q vs H'
def SP (X : Cx) (pins : List (Addr × Obj)) (D : oM) (f : Flow) (s' : Shared) : Prop :=
 match f with
 | .next => ∃ σ' H', Inv X pins σ' H' s' ∧ D.nx σ' H'
 | .brk => ∃ σ' H', Inv X pins σ' H' s' ∧ D.bk σ' H'
 | .cont => ∃ σ' H', Inv X pins σ' H' s' ∧ D.ct σ' H'
 | .ret u => ∃ v σ' H', Inv X pins σ' H' s' ∧ RelV v u ∧ D.rt v H'
def PE (X : Cx) (e : Expr) (t : TE) : Prop :=
 ∀ (pins : List (Addr × Obj)) (s : Shared) (σ : St) (H : Hp) (Q : VK), Inv X pins σ H s → t σ H Q → wpAny (model X.prog X.w) X.A (eval e X.env) (EP X pins σ Q) X.xe s
def PT (X : Cx) (e : Expr) (t : TT) : Prop :=
 ∀ (pins : List (Addr × Obj)) (s : Shared) (σ : St) (H : Hp) (Q : Bool → Hp → Prop), Inv X pins σ H s → t σ H Q → wpAny (model X.prog X.w) X.A (isTrue e X.env (eval e X.env)) (TP X pins σ Q) X.xe s
def PW (X : Cx) (e : Expr) (t : TT) : Prop :=
 ∀ (whole : Sem Value) (pins : List (Addr × Obj)) (s : Shared) (σ : St) (H : Hp) (Q : Bool → Hp → Prop), Inv X pins σ H s → t σ H Q → wpAny (model X.prog X.w) X.A (isTrue e X.env whole) (TP X pins σ Q) X.xe s
theorem PW.pt {X : Cx} {e : Expr} {t : TT} (h : PW X e t) : PT X e t := h _
def PA (X : Cx) (es : List Expr) (t : TA) : Prop :=
 ∀ (pos : Pos) (pins : List (Addr × Obj)) (s : Shared) (σ : St) (H : Hp) (Q : List V → Hp → Prop), Inv X pins σ H s → t σ H Q → wpAny (model X.prog X.w) X.A (spliced (backTo pos (starEach es X.env))) (AP X pins σ Q) X.xe s
def PS (X : Cx) (st : Stmt) (t : TS) : Prop :=
 ∀ (pins : List (Addr × Obj)) (s : Shared) (σ : St) (H : Hp) (D : oM), Inv X pins σ H s → t D σ H → wpAny (model X.prog X.w) X.A (exec st X.env) (SP X pins D) X.xe s
def PSs (X : Cx) (st : List Stmt) (t : TS) : Prop :=
 ∀ (pins : List (Addr × Obj)) (s : Shared) (σ : St) (H : Hp) (D : oM), Inv X pins σ H s → t D σ H → wpAny (model X.prog X.w) X.A (execs st X.env) (SP X pins D) X.xe s
theorem thn {α : Type} {t : Sem α} {Q Q' : α → Shared → Prop} {M : Model} {A : Around} {E : Value → Shared → Prop} {s : Shared} (h : wpAny M A t Q E s) (hQ : ∀ a s, Q a s → Q' a s) : wpAny M A t Q' E s := wpAny_mono h hQ fun _ _ x => x
section
variable {X : Cx}
def xP (i : Nat) : TE := fun σ H Q => ∃ v, σ[i]? = some (some v) ∧ Q v H
def tC (v : V) : TE := fun _ H Q => Q v H
theorem oV {i : Nat} {x : Str} {pos : Pos} (hN : X.N[i]? = some x) (hv : Vis X.env.scope x) (hd : (x == ("__debug__" : Str)) = false := by decide) (hcd : (x == ("__classdict__" : Str)) = false := by decide) : PE X (.Name x pos) (xP i) := by
 intro pins s σ H Q I h
 obtain ⟨v, e, h⟩ := h
 obtain ⟨m, hn, hl⟩ := I.loc
 obtain ⟨u, r, l⟩ := hl i x v hN e hv
 have fin : EP X pins σ Q u s := ⟨v, H, I, r, h⟩
 rcases l with ⟨hk, hm⟩ | ⟨hk, c, hc, hcell⟩
 · exact wpAny_Name (wpAny_loadName_local I.ok.kind hk hn hm fin) hd
 · rcases hk with hk | hk
   · exact wpAny_Name (wpAny_loadName_cell I.ok.kind hk hc hcell fin) hd
   · exact wpAny_Name (wpAny_loadName_free I.ok.kind hk hc hcell fin hcd) hd
theorem xQ {i j pos} : PE X (.Constant (.int i) j pos) (tC (.int i)) := fun _ _ _ H _ I h => wpAny_Constant_int ⟨.int i, H, I.tok _, ⟨_, rfl⟩, h⟩
theorem Bo {b j pos} : PE X (.Constant (.bool b) j pos) (tC (.bl b)) := fun _ _ _ H _ I h => Constant_bool ⟨.bl b, H, I, rfl, h⟩
theorem xR {j pos} : PE X (.Constant .none j pos) (tC .non) := fun _ _ _ H _ I h => Constant_none ⟨.non, H, I, rfl, h⟩
theorem xS {x j pos} : PE X (.Constant (.str x) j pos) (tC (.str x)) := fun _ _ _ H _ I h => Calls.Constant_str ⟨.str x, H, I.tok _, ⟨_, rfl⟩, h⟩
def Gl (X : Cx) (x : Str) : Prop := X.env.kindOf x = some .globalImplicit
theorem lC {E : Value → Shared → Prop} {pins : List (Addr × Obj)} {s : Shared} {σ : St} {H : Hp} {x : Str} {u : Value} {pos : Pos} {Q : Value → Shared → Prop} (I : Inv X pins σ H s) (hg : Gl X x) (hm : X.mg x = some u) (h : Q u s)
 (hd : (x == ("__debug__" : Str)) = false := by decide) : wpAny (model X.prog X.w) X.A (eval (.Name x pos) X.env) Q E s :=
 Calls.Name_function_global I.ok.kind hg (Calls.loadGlobal_global (by rw [I.ok.glob]; exact I.mod.glob.keeps I.bk) hm h) hd
theorem cW {E : Value → Shared → Prop} {pins : List (Addr × Obj)} {s : Shared} {σ : St} {H : Hp} {x : Str} {u : Value} {pos : Pos} {Q : Value → Shared → Prop} (I : Inv X pins σ H s) (hg : Gl X x) (hm : X.mg x = none) (hv : bootBuiltins x = some u) (h : Q u s)
 (hn : x ≠ "__name__" := by decide) (hd : (x == ("__debug__" : Str)) = false := by decide) : wpAny (model X.prog X.w) X.A (eval (.Name x pos) X.env) Q E s := by
 obtain ⟨mb, h1, h2⟩ := I.mod.blt
 exact Calls.Name_function_global I.ok.kind hg (Calls.loadGlobal_builtin (by rw [I.ok.glob]; exact I.mod.glob.keeps I.bk) hm (by rw [I.ok.blt]; exact h1.keeps I.bk) ((h2 x hn).trans hv) h) hd
theorem oW {x : Str} {v : V} {u : Value} {pos : Pos} (hg : Gl X x) (hm : X.mg x = some u) (r : RelV v u) (hd : (x == ("__debug__" : Str)) = false := by decide) : PE X (.Name x pos) (tC v) :=
 fun _ _ _ H _ I h => lC I hg hm ⟨v, H, I, r, h⟩ hd
theorem vq {x : Str} {v : V} {u : Value} {pos : Pos} (hg : Gl X x) (hm : X.mg x = none) (hv : bootBuiltins x = some u) (r : RelV v u) (hn : x ≠ "__name__" := by decide) (hd : (x == ("__debug__" : Str)) = false := by decide) : PE X (.Name x pos) (tC v) :=
 fun _ _ _ H _ I h => cW I hg hm hv ⟨v, H, I, r, h⟩ hn hd
variable {a b : Expr} {ta tb : TE} {pos : Pos}
def tB (t : TE) : TT := fun σ H Q => t σ H fun x H1 => ∃ c, x = .bl c ∧ Q c H1
theorem xT {e : Expr} {t : TE} (h : PE X e t) (he : ∀ whole, isTrue e X.env whole = (do let v ← whole; standAt e.pos; holding [v] (truthy v)) := by intro _; rfl) : PT X e (tB t) := by
 intro pins s σ H Q I hw
 refine isTrue_plain (thn (h pins s σ H _ I hw) fun v s1 ⟨x, H1, I1, r1, q1⟩ => ?_) (he _)
 obtain ⟨d, rfl, q⟩ := q1
 cases r1
 exact wpAny_truthy_bool ⟨H1, I1, q⟩
variable {tA tB' : TT} {rest : List Expr}
def DE (t u : TT) : TT := fun σ H Q => t σ H fun c H1 => if c = true then u σ H1 Q else Q false H1
def tOr (t u : TT) : TT := fun σ H Q => t σ H fun c H1 => if c = true then Q true H1 else u σ H1 Q
def DF (t : TT) : TT := fun σ H Q => t σ H fun c H1 => Q (!c) H1
theorem vt (ha : PT X a tA) : PW X (.BoolOp .And [a] pos) tA := by
 intro wh pins s σ H Q I h
 refine isTrue_and (thn (ha pins s σ H Q I h) fun c s1 e => ?_)
 cases c with
 | true => exact isTrue_and_nil e
 | false => exact e
theorem xU (ha : PT X a tA) : PW X (.BoolOp .Or [a] pos) tA := by
 intro wh pins s σ H Q I h
 refine isTrue_or (thn (ha pins s σ H Q I h) fun c s1 e => ?_)
 cases c with
 | false => exact isTrue_or_nil e
 | true => exact e
theorem xV (ha : PT X a tA) (hb : PW X (.BoolOp .And (b :: rest) pos) tB') : PW X (.BoolOp .And (a :: b :: rest) pos) (DE tA tB') := by
 intro wh pins s σ H Q I h
 refine isTrue_and (thn (ha pins s σ H _ I h) fun c s1 ⟨H1, I1, q1⟩ => ?_)
 cases c with
 | true => exact hb wh pins s1 σ H1 Q I1 q1
 | false => exact ⟨H1, I1, q1⟩
theorem Bp (ha : PT X a tA) (hb : PW X (.BoolOp .Or (b :: rest) pos) tB') : PW X (.BoolOp .Or (a :: b :: rest) pos) (tOr tA tB') := by
 intro wh pins s σ H Q I h
 refine isTrue_or (thn (ha pins s σ H _ I h) fun c s1 ⟨H1, I1, q1⟩ => ?_)
 cases c with
 | true => exact ⟨H1, I1, q1⟩
 | false => exact hb wh pins s1 σ H1 Q I1 q1
theorem xW (ha : PT X a tA) : PT X (.UnaryOp .Not a pos) (DF tA) := by
 intro pins s σ H Q I h
 exact isTrue_not (ha pins s σ H (fun c H1 => Q (!c) H1) I h)
def Bq (ta tb : TE) : TE := fun σ H Q => ta σ H fun x H1 => ∃ c, x = .bl c ∧ if c = true then tb σ H1 Q else Q (.bl false) H1
def DG (ta tb : TE) : TE := fun σ H Q => ta σ H fun x H1 => ∃ c, x = .bl c ∧ if c = true then Q (.bl true) H1 else tb σ H1 Q
def Br (ta : TE) : TE := fun σ H Q => ta σ H fun x H1 => ∃ c, x = .bl c ∧ Q (.bl (!c)) H1
theorem xX {op} {t : TE} (h : PE X a t) : PE X (.BoolOp op [a] pos) t := fun pins s σ H Q I hw => BoolOp_one (h pins s σ H Q I hw)
theorem xY (ha : PE X a ta) (hb : PE X (.BoolOp .And (b :: rest) pos) tb) : PE X (.BoolOp .And (a :: b :: rest) pos) (Bq ta tb) := by
 intro pins s σ H Q I h
 refine BoolOp_and (thn (ha pins s σ H _ I h) fun v s1 ⟨x, H1, I1, r1, q1⟩ => ?_)
 obtain ⟨c, rfl, q1⟩ := q1
 cases r1
 refine wpAny_truthy_bool ?_
 cases c with
 | true => exact hb pins s1 σ H1 Q I1 q1
 | false => exact ⟨.bl false, H1, I1, rfl, q1⟩
theorem Bs (ha : PE X a ta) (hb : PE X (.BoolOp .Or (b :: rest) pos) tb) : PE X (.BoolOp .Or (a :: b :: rest) pos) (DG ta tb) := by
 intro pins s σ H Q I h
 refine BoolOp_or (thn (ha pins s σ H _ I h) fun v s1 ⟨x, H1, I1, r1, q1⟩ => ?_)
 obtain ⟨c, rfl, q1⟩ := q1
 cases r1
 refine wpAny_truthy_bool ?_
 cases c with
 | false => exact hb pins s1 σ H1 Q I1 q1
 | true => exact ⟨.bl true, H1, I1, rfl, q1⟩
theorem xZ (ha : PE X a ta) : PE X (.UnaryOp .Not a pos) (Br ta) := by
 intro pins s σ H Q I h
 refine UnaryOp_ (thn (ha pins s σ H _ I h) fun v s1 ⟨x, H1, I1, r1, q1⟩ => ?_)
 obtain ⟨c, rfl, q1⟩ := q1
 cases r1
 exact not_of (wpAny_truthy_bool ⟨.bl (!c), H1, I1, rfl, q1⟩)
def tIf (t : TT) (ta tb : TE) : TE := fun σ H Q => t σ H fun c H1 => if c = true then ta σ H1 Q else tb σ H1 Q
theorem sA {c : Expr} (hc : PT X c tA) (ha : PE X a ta) (hb : PE X b tb) : PE X (.IfExp c a b pos) (tIf tA ta tb) := by
 intro pins s σ H Q I h
 refine wpAny_IfExp (thn (hc pins s σ H _ I h) fun d s1 ⟨H1, I1, q1⟩ => ?_)
 cases d with
 | true => exact ha pins s1 σ H1 Q I1 q1
 | false => exact hb pins s1 σ H1 Q I1 q1
end
def SqL (K : PySem.W.Frag) (H : Hp) (a : Addr) (xs : List V) : Prop :=
 Rd H a (.lst xs) ∨
  ∃ (o : Obj) (its : Array Value) (n : Nat), K.lookup a = some o ∧ o.cls = .type "list" ∧ o.dict = none ∧ o.data = .seq its n ∧ its.size ≤ sizeLine ∧ Vals xs its.toList
def SqT (K : PySem.W.Frag) (H : Hp) (a : Addr) (xs : List V) : Prop :=
 Rd H a (.tup xs) ∨
  ∃ (o : Obj) (its : Array Value) (n : Nat), K.lookup a = some o ∧ o.cls = .type "tuple" ∧ o.data = .seq its n ∧ its.size ≤ sizeLine ∧ Vals xs its.toList
def DH : Value → Option V
 | .none => some .non
 | .bool b => some (.bl b)
 | .int i _ => some (.int i)
 | .str x _ => some (.str x)
 | .bytes b _ => some (.byt b)
 | .float b _ => some (.flt b)
 | .ref a => some (.ref a)
 | .type n => some (.ty n)
 | _ => none
theorem RelV.abs {x : V} {u : Value} (r : RelV x u) : DH u = some x := by
 cases x with
 | non => cases r; rfl
 | bl _ => cases r; rfl
 | int _ => obtain ⟨t, rfl⟩ := r; rfl
 | str _ => obtain ⟨t, rfl⟩ := r; rfl
 | byt _ => obtain ⟨t, rfl⟩ := r; rfl
 | flt _ => obtain ⟨t, rfl⟩ := r; rfl
 | ref _ => cases r; rfl
 | ty _ => cases r; rfl
theorem RelV.inj {x y : V} {u : Value} (r : RelV x u) (q : RelV y u) : x = y := Option.some.inj (r.abs.symm.trans q.abs)
theorem Vals.inj : ∀ {xs ys : List V} {us : List Value}, Vals xs us → Vals ys us → xs = ys
 | _, _, _, .nil, .nil => rfl
 | _, _, _, .cons r t, .cons r' t' => by rw [r.inj r', Vals.inj t t']
section
variable {X : Cx} {pins : List (Addr × Obj)} {σ : St} {H : Hp} {s : Shared} {a : Addr} {xs ys : List V}
theorem SqL.of {K : PySem.W.Frag} (h : H a = some (.lst xs)) : SqL K H a xs := .inl (.inl h)
theorem SqT.of {K : PySem.W.Frag} (h : H a = some (.tup xs)) : SqT K H a xs := .inl (.inl h)
theorem Inv.list (I : Inv X pins σ H s) (h : SqL X.K H a xs) : ∃ its : List Value, Vals xs its ∧ PlainL s.heap a its.toArray ∧ xs.length ≤ sizeLine := by
 rcases h with h | ⟨o, its, n, hk, hc, hd, hs, hz, r⟩
 · obtain ⟨z, its, n, r, e⟩ := h.ok I.hok
   exact ⟨its, r, ⟨_, n, e, rfl, rfl, rfl⟩, z⟩
 · refine ⟨its.toList, r, ⟨o, n, I.kIn a o hk, hc, hd, by simpa using hs⟩, ?_⟩
   have e := r.length
   simp only [Array.length_toList] at e
   omega
theorem Inv.tuple (I : Inv X pins σ H s) (h : SqT X.K H a xs) : ∃ its : List Value, Vals xs its ∧ IsTup s.heap a its.toArray ∧ xs.length ≤ sizeLine := by
 rcases h with h | ⟨o, its, n, hk, hc, hs, hz, r⟩
 · obtain ⟨z, its, r, p⟩ := h.ok I.hok
   exact ⟨its, r, p, z⟩
 · refine ⟨its.toList, r, ⟨o, I.kIn a o hk, hc, n, by simpa using hs⟩, ?_⟩
   have e := r.length
   simp only [Array.length_toList] at e
   omega
theorem Inv.list_inj (I : Inv X pins σ H s) (h : SqL X.K H a xs) (h' : SqL X.K H a ys) : xs = ys := by
 obtain ⟨its, r, ⟨o, n, e, _, _, d⟩, _⟩ := I.list h
 obtain ⟨its', r', ⟨o', n', e', _, _, d'⟩, _⟩ := I.list h'
 rw [e] at e'; cases e'
 rw [d] at d'
 injection d' with d1 _
 have : its = its' := by simpa using congrArg Array.toList d1
 subst this
 exact r.inj r'
theorem Inv.tuple_inj (I : Inv X pins σ H s) (h : SqT X.K H a xs) (h' : SqT X.K H a ys) : xs = ys := by
 obtain ⟨its, r, ⟨o, e, _, n, d⟩, _⟩ := I.tuple h
 obtain ⟨its', r', ⟨o', e', _, n', d'⟩, _⟩ := I.tuple h'
 rw [e] at e'; cases e'
 rw [d] at d'
 injection d' with d1 _
 have : its = its' := by simpa using congrArg Array.toList d1
 subst this
 exact r.inj r'
end
abbrev Cx.wish (X : Cx) (E : Value → Shared → Prop) : Cx := { X with xe := E }
abbrev Cx.nox (X : Cx) : Cx := X.wish fun _ _ => False
theorem Cx.Ok.wish {X : Cx} (ok : X.Ok) (E : Value → Shared → Prop) : (X.wish E).Ok :=
 ⟨ok.mod, ok.kind, ok.glob, ok.blt, ok.above, ok.inj, ok.has, ok.cab, ok.hd, ok.frames, ok.stk, ok.exf, ok.bs, ok.bsz, ok.noex, ok.exfs, ok.funs, ok.frf⟩
theorem Cx.Ok.unwish {X : Cx} {E : Value → Shared → Prop} (ok : (X.wish E).Ok) : X.Ok :=
 ⟨ok.mod, ok.kind, ok.glob, ok.blt, ok.above, ok.inj, ok.has, ok.cab, ok.hd, ok.frames, ok.stk, ok.exf, ok.bs, ok.bsz, ok.noex, ok.exfs, ok.funs, ok.frf⟩
section
variable {X : Cx} {pins : List (Addr × Obj)} {σ : St} {H : Hp} {s : Shared} {E : Value → Shared → Prop}
theorem Inv.wish (I : Inv X pins σ H s) (E : Value → Shared → Prop) : Inv (X.wish E) pins σ H s := ⟨I.ok.wish E, I.os, I.bare, I.base, I.loc, I.cell, I.free, I.freeC, I.pin, I.hok, I.len⟩
theorem Inv.unwish (I : Inv (X.wish E) pins σ H s) : Inv X pins σ H s := ⟨I.ok.unwish, I.os, I.bare, I.base, I.loc, I.cell, I.free, I.freeC, I.pin, I.hok, I.len⟩
theorem SP.unwish {D : oM} {f : Flow} {s' : Shared} (h : SP (X.wish E) pins D f s') : SP X pins D f s' := by
 cases f with
 | next => obtain ⟨σ', H', I, q⟩ := h; exact ⟨σ', H', I.unwish, q⟩
 | brk => obtain ⟨σ', H', I, q⟩ := h; exact ⟨σ', H', I.unwish, q⟩
 | cont => obtain ⟨σ', H', I, q⟩ := h; exact ⟨σ', H', I.unwish, q⟩
 | ret u => obtain ⟨v, σ', H', I, r, q⟩ := h; exact ⟨v, σ', H', I.unwish, r, q⟩
theorem PE.nox {e : Expr} {t : TE} (h : PE X.nox e t) : PE X e t := fun pins s σ H Q I hw =>
 wpAny_mono (h pins s σ H Q (I.wish _) hw) (fun _ _ ⟨v, H', I', r, q⟩ => ⟨v, H', I'.unwish, r, q⟩) fun _ _ z => False.elim z
theorem PT.nox {e : Expr} {t : TT} (h : PT X.nox e t) : PT X e t := fun pins s σ H Q I hw =>
 wpAny_mono (h pins s σ H Q (I.wish _) hw) (fun _ _ ⟨H', I', q⟩ => ⟨H', I'.unwish, q⟩) fun _ _ z => False.elim z
theorem PSs.nox {st : List Stmt} {t : TS} (h : PSs X.nox st t) : PSs X st t := fun pins s σ H D I hw =>
 wpAny_mono (h pins s σ H D (I.wish _) hw) (fun _ _ q => q.unwish) fun _ _ z => False.elim z
end
section
variable {X : Cx} {st : Stmt} {rest : List Stmt} {t u : TS} {e : Expr} {te : TE} {pos : Pos}
def Bt : TS := fun D σ H => D.nx σ H
def DI (t u : TS) : TS := fun D σ H => t { D with nx := u D } σ H
theorem oX : PSs X [] Bt := fun _ _ σ H _ I h => wpAny_execs_nil ⟨σ, H, I, h⟩
theorem iW (h1 : PS X st t) (h2 : PSs X rest u) : PSs X (st :: rest) (DI t u) := by
 intro pins s σ H D I h
 refine wpAny_execs_cons (thn (h1 pins s σ H { D with nx := u D } I h) fun f s1 q => ?_)
 cases f with
 | next =>
  obtain ⟨σ', H', I', q⟩ := q
  exact h2 pins s1 σ' H' D I' q
 | ret v => exact q
 | brk => exact q
 | cont => exact q
theorem oY (h1 : PS X st t) : PSs X [st] t := by
 intro pins s σ H D I h
 refine wpAny_execs_cons (thn (h1 pins s σ H D I h) fun f s1 q => ?_)
 cases f with
 | next => exact wpAny_execs_nil q
 | ret v => exact q
 | brk => exact q
 | cont => exact q
theorem Inv.quiet {pins : List (Addr × Obj)} {σ : St} {H : Hp} {s : Shared} (I : Inv X pins σ H s) : interactive X.env = false := by simp [interactive, I.ok.kind]
def Bu (te : TE) : TS := fun D σ H => te σ H fun _ H1 => D.nx σ H1
theorem oZ (he : PE X e te) (hs : swapsWith e none pos.line X.env = pure false := by rfl) : PS X (.Expr e pos) (Bu te) := by
 intro pins s σ H D I h
 exact wpAny_Expr_any (thn (he pins s σ H _ I h) fun v s1 ⟨x, H1, I1, r1, q1⟩ => ⟨σ, H1, I1, q1⟩) I.quiet hs
def DJ (te : TE) : TS := fun D σ H => te σ H D.rt
theorem uA (he : PE X e te) : PS X (.Return (some e) pos) (DJ te) := by
 intro pins s σ H D I h
 exact wpAny_Return_some (thn (he pins s σ H _ I h) fun v s1 ⟨x, H1, I1, r1, q1⟩ => ⟨x, σ, H1, I1, r1, q1⟩)
def DK (c : TT) (t u : TS) : TS := fun D σ H => c σ H fun b H1 => if b = true then t D σ H1 else u D σ H1
theorem x3 {c : Expr} {a b : List Stmt} {tc : TT} (hc : PT X c tc) (ha : PSs X a t) (hb : PSs X b u) : PS X (.If c a b pos) (DK tc t u) := by
 intro pins s σ H D I h
 refine wpAny_If (thn (hc pins s σ H _ I h) fun d s1 ⟨H1, I1, q1⟩ => ?_)
 cases d with
 | true => exact ha pins s1 σ H1 D I1 q1
 | false => exact hb pins s1 σ H1 D I1 q1
def x4 : TS := fun _ _ _ => False
theorem sB : PS X st x4 := fun _ _ _ _ _ _ h => h.elim
end
abbrev TG := V → St → Hp → (St → Hp → Prop) → Prop
abbrev TGs := List V → St → Hp → (St → Hp → Prop) → Prop
def PG (X : Cx) (target : Expr) (t : TG) : Prop :=
 ∀ (pins : List (Addr × Obj)) (s : Shared) (σ : St) (H : Hp) (v : V) (u : Value) (Q : St → Hp → Prop), Inv X pins σ H s → RelV v u → t v σ H Q →
  wpAny (model X.prog X.w) X.A (assign target X.env u) (fun _ s' => ∃ σ' H', Inv X pins σ' H' s' ∧ Q σ' H') X.xe s
def PGs (X : Cx) (ts : List Expr) (t : TGs) : Prop :=
 ∀ (pins : List (Addr × Obj)) (s : Shared) (σ : St) (H : Hp) (vs : List V) (us : List Value) (Q : St → Hp → Prop), Inv X pins σ H s → Vals vs us → t vs σ H Q →
  wpAny (model X.prog X.w) X.A (assignInOrder ((assignEach ts X.env).map (·.2)) us) (fun _ s' => ∃ σ' H', Inv X pins σ' H' s' ∧ Q σ' H') X.xe s
section
variable {X : Cx} {pos : Pos}
def ia (i : Nat) : TG := fun v σ H Q => Q (σ.set i (some v)) H
theorem eR {i : Nat} {x : Str} (hN : X.N.Nodup) (hi : X.N[i]? = some x) (hx : Loc X.env.scope x) (hf : X.fn x = true ∨ X.env.scope.names.lookup x = some .local := by first | exact .inl rfl | exact .inr rfl | assumption) : PG X (.Name x pos) (ia i) := by
 intro pins s σ H v u Q I r h
 exact wpAny_assign_Name (mD I hN hi hx r (fun s' I' => ⟨_, H, I', h⟩) hf)
def DM : TGs := fun vs σ H Q => vs = [] ∧ Q σ H
def Bv (t : TG) (u : TGs) : TGs := fun vs σ H Q => ∃ v r, vs = v :: r ∧ t v σ H fun σ' H' => u r σ' H' Q
theorem vv : PGs X [] DM := by
 intro pins s σ H vs us Q I r h
 obtain ⟨e, h⟩ := h
 subst e
 cases r
 exact assignInOrder_nil ⟨σ, H, I, h⟩
theorem mE {e : Expr} {es : List Expr} {t : TG} {u : TGs} (h1 : PG X e t) (h2 : PGs X es u)
 (hs : (assignEach (e :: es) X.env).map (·.2) = assign e X.env :: (assignEach es X.env).map (·.2) := by rfl) : PGs X (e :: es) (Bv t u) := by
 intro pins s σ H vs us Q I r h
 obtain ⟨v, vr, e1, h⟩ := h
 subst e1
 cases r with
 | cons r rr =>
  rw [hs]
  refine assignInOrder_cons (thn (h1 pins s σ H _ _ _ I r h) fun _ s1 ⟨σ1, H1, I1, q1⟩ => ?_)
  exact h2 pins s1 σ1 H1 _ _ Q I1 rr q1
def DN (K : PySem.W.Frag) (n : Nat) (t : TGs) : TG := fun v σ H Q => ∃ a xs, v = .ref a ∧ SqT K H a xs ∧ xs.length = n ∧ t xs σ H Q
theorem x5 {es : List Expr} {k : Nat} {t : TGs} {n : Nat} (hc : X.calm = true) (h : PGs X es t)
 (hn : (assignEach es X.env).length = n := by rfl) (hst : (assignEach es X.env).findIdx? (·.1) = none := by rfl) : PG X (.Tuple es k pos) (DN X.K n t) := by
 intro pins s σ H v u Q I r hw
 obtain ⟨a, xs, e1, hq, hl, hw⟩ := hw
 subst e1
 cases r
 obtain ⟨its, rv, ht, hz⟩ := I.tuple hq
 refine assign_Tuple_tuple (I.ok.hd hc) ht (by simp [hn, ← hl, rv.length]) hst fun h' hx => ?_
 have I1 : Inv X pins σ H { s with heap := h' } := I.kept (t' := s.toks) fun b o e => hx b o (Nat.ne_of_lt (Heap.lt_size e)) e
 exact h pins _ σ H xs _ Q I1 (by simpa using rv) hw
def DO (te : TE) (g : TG) : TS := fun D σ H => te σ H fun x H1 => g x σ H1 D.nx
theorem o6 {i : Nat} {x : Str} {e : Expr} {te : TE} {pos' : Pos} (hN : X.N.Nodup) (hi : X.N[i]? = some x) (hx : Loc X.env.scope x) (he : PE X e te) (hs : swapsWith e (some (.Name x pos')) pos.line X.env = pure false := by rfl) (hf : X.fn x = true ∨ X.env.scope.names.lookup x = some .local := by first | exact .inl rfl | exact .inr rfl | assumption) :
 PS X (.Assign [.Name x pos'] e pos) (DO te (ia i)) := by
 intro pins s σ H D I h
 refine wpAny_Assign_Name (thn (he pins s σ H _ I h) fun v s1 ⟨y, H1, I1, r1, q1⟩ => ?_) hs
 exact mD I1 hN hi hx r1 (fun s2 I2 => ⟨_, H1, I2, q1⟩) hf
end
section
variable {X : Cx} {pos : Pos}
end
structure It where
 go : Nat → Hp → Prop
 yld : Nat → Hp → V → Hp → Prop
 stop : Nat → Hp → Prop
def nV (X : Cx) (pins : List (Addr × Obj)) (H : Hp) (b : Addr) : Prop :=
 H b = none ∧ b ≠ X.env.locals ∧ b ∉ X.fs ∧ (b ∈ X.ex ∨ X.s₀.heap.objs.size ≤ b) ∧ (∀ x c, X.env.cells.lookup x = some c → c ≠ b) ∧ ∀ p ∈ X.pn ++ pins, p.1 ≠ b
theorem Inv.fpOk {X : Cx} {pins : List (Addr × Obj)} {σ : St} {H H' : Hp} {s : Shared} {b : Addr} (I : Inv X pins σ H s) (hb : s.heap.objs.size ≤ b) (hn : H' b = none) : nV X pins H' b := by
 refine ⟨hn, Nat.ne_of_gt (Nat.lt_of_lt_of_le I.lt hb), I.nofs hb, .inr (Nat.le_trans I.sz hb), fun x c e z => ?_, fun p hp z => ?_⟩
 · obtain ⟨v, q⟩ := I.cell x c e
   exact absurd (Nat.lt_of_lt_of_le q.lt (by rw [z]; exact hb)) (Nat.lt_irrefl _)
 · exact absurd (Nat.lt_of_lt_of_le (Heap.lt_size (I.pin p hp).1) (by rw [z]; exact hb)) (Nat.lt_irrefl _)
structure uB (P : Program) (w : World) (K : PySem.W.Frag) (tg : Expr) (J : It) (fp : List Addr) (it : Addr) (tn : Nat → Heap → Prop) : Prop where
 mem : it ∈ fp
 obj : ∀ i h, tn i h → ∀ b ∈ fp, ∃ o, h.get? b = some o ∧ ∀ v, o.data ≠ .cell v
 keep : ∀ i h h', tn i h → (∀ b ∈ fp, ∀ o, h.get? b = some o → h'.get? b = some o) → tn i h'
 item : ∀ (X : Cx), X.prog = P → X.w = w → X.K = K → X.calm = true → ∀ (i : Nat) (pins : List (Addr × Obj)) (s : Shared) (σ : St) (H : Hp) (E : Value → Shared → Prop), Inv X pins σ H s → (∀ b ∈ fp, nV X pins H b) → tn i s.heap → J.go i H →
  wpAny (model P w) X.A (pyNext (.ref it)) (fun r s1 => ∃ u, r = some u ∧
   wpAny (model P w) X.A (letOwnedTupleGo tg (.ref it) u) (fun _ s2 => ∃ x H', Inv X pins σ H' s2 ∧ RelV x u ∧ J.yld i H x H' ∧ tn (i + 1) s2.heap ∧ ∀ b ∈ fp, H' b = none) E s1) E s
 done : ∀ (X : Cx), X.prog = P → X.w = w → X.K = K → X.calm = true → ∀ (i : Nat) (pins : List (Addr × Obj)) (s : Shared) (σ : St) (H : Hp) (E : Value → Shared → Prop), Inv X pins σ H s → (∀ b ∈ fp, nV X pins H b) → tn i s.heap → J.stop i H →
  wpAny (model P w) X.A (pyNext (.ref it)) (fun r s1 => r = none ∧ Inv X pins σ H s1) E s
 self : ∀ (A : Around) (i : Nat) (s : Shared) (Q : Value → Shared → Prop) (E : Value → Shared → Prop), tn i s.heap → Q (.ref it) s → wpAny (model P w) A (pyIter (.ref it)) Q E s
abbrev TI := St → Hp → (It → Hp → Prop) → Prop
def PIE (X : Cx) (pins : List (Addr × Obj)) (σ : St) (tg : Expr) (R : It → Hp → Prop) (itv : Value) (s2 : Shared) : Prop :=
 ∃ (it : Addr) (fp : List Addr) (tn : Nat → Heap → Prop) (J : It) (H' : Hp), itv = .ref it ∧ Inv X pins σ H' s2 ∧ uB X.prog X.w X.K tg J fp it tn ∧ tn 0 s2.heap ∧ (∀ b ∈ fp, nV X pins H' b) ∧ R J H'
def PI (X : Cx) (tg iter : Expr) (wi : TI) : Prop :=
 ∀ (pins : List (Addr × Obj)) (s : Shared) (σ : St) (H : Hp) (R : It → Hp → Prop), Inv X pins σ H s → wi σ H R →
  wpAny (model X.prog X.w) X.A (eval iter X.env) (fun v s1 => wpAny (model X.prog X.w) X.A (pyIter v) (PIE X pins σ tg R) X.xe s1) X.xe s
theorem sC {M : Model} {A : Around} {E : Value → Shared → Prop} {s : Shared} {tg : Expr} {it : Addr} {u : Value} {o : Obj} {n : String} {vs : Array Value} {Q : Unit → Shared → Prop} (ho : s.heap.get? it = some o) (hc : o.cls = .type n) (hd : o.data = .fields vs)
 (hn : ["enumerate", "zip", "dict_itemiterator", "dict_reverseitemiterator", "odict_iterator", "itertools.zip_longest", "itertools.pairwise"].contains n = false) (hQ : Q () s) : wpAny M A (letOwnedTupleGo tg (.ref it) u) Q E s := by
 unfold letOwnedTupleGo
 cases tg <;> first
  | exact wpAny_pure hQ
  | (cases u <;> first
      | exact wpAny_pure hQ
      | (refine wpAny_bind (wpAny_load ho ?_)
         rw [hc, hd]
         show wpAny M A (if (["enumerate", "zip", "dict_itemiterator", "dict_reverseitemiterator", "odict_iterator", "itertools.zip_longest", "itertools.pairwise"].contains n && vs[0]? == some (rawInt _)) = true then _ else _) Q E s
         rw [if_neg (by intro h; rw [hn, Bool.false_and] at h; cases h)]
         exact wpAny_pure hQ))
def Itl (K : PySem.W.Frag) (a : Addr) : It :=
 ⟨fun i H => ∃ xs x, SqL K H a xs ∧ xs[i]? = some x, fun i H x H' => H' = H ∧ ∀ xs, SqL K H a xs → xs[i]? = some x, fun i H => ∃ xs, SqL K H a xs ∧ xs.length ≤ i⟩
def Itt (K : PySem.W.Frag) (a : Addr) : It :=
 ⟨fun i H => ∃ xs x, SqT K H a xs ∧ xs[i]? = some x, fun i H x H' => H' = H ∧ ∀ xs, SqT K H a xs → xs[i]? = some x, fun i H => ∃ xs, SqT K H a xs ∧ xs.length ≤ i⟩
def Itr (lo : Int) (n : Nat) : It := ⟨fun i _ => i < n, fun i H x H' => H' = H ∧ x = .int (lo + i), fun i _ => n ≤ i⟩
theorem o7 {P : Program} {w : World} {K : PySem.W.Frag} {tg : Expr} (a it : Addr) : uB P w K tg (Itl K a) [it] it (fun i h => h.IsListIter it a i) where
 mem := by simp
 obj := fun i h st b hb => by
  have e : b = it := by simpa using hb
  subst e
  obtain ⟨o, e, c, d⟩ := st
  exact ⟨o, e, fun v z => by rw [d] at z; cases z⟩
 keep := fun i h h' st k => st.at fun o e => k it (by simp) o e
 item := by
  intro X hP hw hK hc i pins s σ H E I hf st hg
  subst hP hw hK
  obtain ⟨xs, x, hq, hx⟩ := hg
  obtain ⟨its, rv, p, hz⟩ := I.list hq
  obtain ⟨u, hu, ru⟩ := rv.get hx
  obtain ⟨f0, f1, f2, f3, f4, f5⟩ := hf it (by simp)
  refine wpAny_pyNext_list_item st p.isList (x := u) (by simpa using hu) fun h' st' sb => ?_
  have I1 : Inv X pins σ H { s with heap := h' } := I.turned (t' := s.toks) (fun b o hb e => (sb.2 b hb).trans e) f0 f1 f3 f4 f5
  obtain ⟨o, e, c, d⟩ := id st'
  exact ⟨u, rfl, sC (s := { s with heap := h' }) e c d (by decide) ⟨x, H, I1, ru, ⟨rfl, fun ys hy => by rw [I.list_inj hy hq]; exact hx⟩, st', fun b hb => (hf b hb).1⟩⟩
 done := by
  intro X hP hw hK hc i pins s σ H E I hf st hg
  subst hP hw hK
  obtain ⟨xs, hq, hx⟩ := hg
  obtain ⟨its, rv, p, hz⟩ := I.list hq
  obtain ⟨f0, f1, f2, f3, f4, f5⟩ := hf it (by simp)
  have hl := rv.length
  exact wpAny_pyNext_list_end (I.ok.hd hc) st p.isList (by simp; omega) fun h' eb => ⟨rfl, I.turned (t' := s.toks) (fun b o hb e => eb b o hb e) f0 f1 f3 f4 f5⟩
 self := fun _ _ _ _ _ st h => wpAny_pyIter_listiter st h
theorem nW {P : Program} {w : World} {K : PySem.W.Frag} {tg : Expr} (a it : Addr) : uB P w K tg (Itt K a) [it] it (fun i h => h.IsTupleIter it a i) where
 mem := by simp
 obj := fun i h st b hb => by
  have e : b = it := by simpa using hb
  subst e
  obtain ⟨o, e, c, d⟩ := st
  exact ⟨o, e, fun v z => by rw [d] at z; cases z⟩
 keep := fun i h h' st k => st.at fun o e => k it (by simp) o e
 item := by
  intro X hP hw hK hc i pins s σ H E I hf st hg
  subst hP hw hK
  obtain ⟨xs, x, hq, hx⟩ := hg
  obtain ⟨its, rv, p, hz⟩ := I.tuple hq
  obtain ⟨u, hu, ru⟩ := rv.get hx
  obtain ⟨f0, f1, f2, f3, f4, f5⟩ := hf it (by simp)
  refine wpAny_pyNext_tuple_item st (show s.heap.IsTuple a its.toArray from p) (x := u) (by simpa using hu) fun h' st' sb => ?_
  have I1 : Inv X pins σ H { s with heap := h' } := I.turned (t' := s.toks) (fun b o hb e => (sb.2 b hb).trans e) f0 f1 f3 f4 f5
  obtain ⟨o, e, c, d⟩ := id st'
  exact ⟨u, rfl, sC (s := { s with heap := h' }) e c d (by decide) ⟨x, H, I1, ru, ⟨rfl, fun ys hy => by rw [I.tuple_inj hy hq]; exact hx⟩, st', fun b hb => (hf b hb).1⟩⟩
 done := by
  intro X hP hw hK hc i pins s σ H E I hf st hg
  subst hP hw hK
  obtain ⟨xs, hq, hx⟩ := hg
  obtain ⟨its, rv, p, hz⟩ := I.tuple hq
  obtain ⟨f0, f1, f2, f3, f4, f5⟩ := hf it (by simp)
  have hl := rv.length
  exact wpAny_pyNext_tuple_end (I.ok.hd hc) st (show s.heap.IsTuple a its.toArray from p) (by simp; omega) fun h' eb => ⟨rfl, I.turned (t' := s.toks) (fun b o hb e => eb b o hb e) f0 f1 f3 f4 f5⟩
 self := fun _ _ _ _ _ st h => wpAny_pyIter_tupleiter st h
theorem nX {P : Program} {w : World} {K : PySem.W.Frag} {tg : Expr} (it : Addr) (lo : Int) (n : Nat) : uB P w K tg (Itr lo n) [it] it (fun i h => IsRangeIter h it (lo + (i : Nat) * 1) ((n : Int) - (i : Nat)) 1) where
 mem := by simp
 obj := fun i h st b hb => by
  have e : b = it := by simpa using hb
  subst e
  exact ⟨_, st, fun v z => by
   have z' : Data.fields _ = Data.cell v := z
   cases z'⟩
 keep := fun i h h' st k => k it (by simp) _ st
 item := by
  intro X hP hw hK hc i pins s σ H E I hf st hg
  subst hP hw hK
  obtain ⟨f0, f1, f2, f3, f4, f5⟩ := hf it (by simp)
  have W := Walks.range (prog := X.prog) (w := X.w) (I.ok.hd hc) it lo 1 n
  refine W.item i s _ _ hg st fun v h' tk hv st' kk => ?_
  obtain ⟨t, rfl⟩ := hv
  have I1 : Inv X pins σ H { s with heap := h', toks := tk } := I.turned (fun b o hb e => kk b o (by simpa using hb) e) f0 f1 f3 f4 f5
  refine ⟨_, rfl, sC (s := { s with heap := h', toks := tk }) (n := "range_iterator") st' rfl rfl (by decide) ⟨.int (lo + i), H, I1, ⟨t, ?_⟩, ⟨rfl, rfl⟩, st', fun b hb => (hf b hb).1⟩⟩
  rw [Int.mul_one]
 done := by
  intro X hP hw hK hc i pins s σ H E I hf st hg
  subst hP hw hK
  obtain ⟨f0, f1, f2, f3, f4, f5⟩ := hf it (by simp)
  exact wpAny_pyNext_range_end (I.ok.hd hc) st (by have : n ≤ i := hg; omega) fun h' eb => ⟨rfl, I.turned (t' := s.toks) (fun b o hb e => eb b o hb e) f0 f1 f3 f4 f5⟩
 self := fun _ _ _ _ _ st h => wpAny_pyIter_rangeiter st h
section
variable {X : Cx} {tg : Expr}
theorem mF {pins : List (Addr × Obj)} {σ : St} {H : Hp} {s : Shared} {R : It → Hp → Prop} {E : Value → Shared → Prop} {lo hi : Int} {t u v : Tok} {tk : Nat} (I : Inv X pins σ H s) (h1 : -(2 ^ 62) ≤ lo) (h2 : lo < 2 ^ 62) (h3 : -(2 ^ 62) ≤ hi) (h4 : hi < 2 ^ 62)
 (q : R (Itr lo (hi - lo).toNat) H) : wpAny (model X.prog X.w) X.A (pyIter (.ref s.heap.objs.size)) (PIE X pins σ tg R) E { s with heap := s.heap.push { cls := .type "range", data := .fields #[.int lo t, .int hi u, .int 1 v] }, toks := tk } := by
 refine wpAny_pyIter_range (IsRange.new ..) (small_one h1 h2 h3 h4) ?_
 have I1 : Inv X pins σ H { s with heap := s.heap.push { cls := .type "range", data := .fields #[.int lo t, .int hi u, .int 1 v] }, toks := tk } := I.kept fun b o e => Heap.get?_push_of_some _ e
 refine ⟨(s.heap.push { cls := .type "range", data := .fields #[.int lo t, .int hi u, .int 1 v] }).objs.size, [(s.heap.push { cls := .type "range", data := .fields #[.int lo t, .int hi u, .int 1 v] }).objs.size], _, _, H, rfl,
  I1.kept (t' := tk) fun b o e => Heap.get?_push_of_some _ e, nX _ lo (hi - lo).toNat, ?_, fun b hb => ?_, q⟩
 · have e1 : lo + ((0 : Nat) : Int) * 1 = lo := by simp
   have e2 : (((hi - lo).toNat : Nat) : Int) - ((0 : Nat) : Int) = Builtin.Range.rangeSize lo hi 1 := by rw [rangeSize_one]; split <;> omega
   show IsRangeIter _ _ (lo + ((0 : Nat) : Int) * 1) ((((hi - lo).toNat : Nat) : Int) - ((0 : Nat) : Int)) 1
   rw [e1, e2]
   exact Heap.get?_push_size _ rfl
 · have e : b = (s.heap.push { cls := .type "range", data := .fields #[.int lo t, .int hi u, .int 1 v] }).objs.size := by simpa using hb
   subst e
   exact I1.fpOk (Nat.le_refl _) (I1.hok.fresh (Nat.le_refl _))
def Bw (ta : TA) : TI := fun σ H R => ta σ H fun vs H1 => ∃ j : Int, vs = [.int j] ∧ -(2 ^ 62) ≤ j ∧ j < 2 ^ 62 ∧ R (Itr 0 j.toNat) H1
def Bx (ta : TA) : TI := fun σ H R => ta σ H fun vs H1 => ∃ i j : Int, vs = [.int i, .int j] ∧ (-(2 ^ 62) ≤ i ∧ i < 2 ^ 62 ∧ -(2 ^ 62) ≤ j ∧ j < 2 ^ 62) ∧ R (Itr i (j - i).toNat) H1
theorem o8 {a : Expr} {ta : TA} {p pos : Pos} (hg : Gl X "range") (hm : X.mg "range" = none) (ha : PA X [a] ta) (hs : starEach [a] X.env = [(false, eval a X.env)] := by rfl) : PI X tg (.Call (.Name "range" p) [a] [] pos) (Bw ta) := by
 intro pins s σ H R I h
 refine Call_ (cW I hg hm boot_range (PyProof.Rows.callWith_type1 (thn (ha pos pins s σ H _ I h) fun us s1 ⟨vs, H1, I1, r1, q1⟩ => ?_) hs rfl))
 obtain ⟨j, e, q1, q2, q⟩ := q1
 subst e
 cases r1 with
 | cons r rr =>
  cases rr
  obtain ⟨t, rfl⟩ := r
  exact call_range_1 (mF I1 (by omega) (by omega) q1 q2 (by simpa using q))
theorem o9 {a b : Expr} {ta : TA} {p pos : Pos} (hg : Gl X "range") (hm : X.mg "range" = none) (ha : PA X [a, b] ta) (hs : starEach [a, b] X.env = [(false, eval a X.env), (false, eval b X.env)] := by rfl) (hs2 : starEach [b] X.env = [(false, eval b X.env)] := by rfl) :
 PI X tg (.Call (.Name "range" p) [a, b] [] pos) (Bx ta) := by
 intro pins s σ H R I h
 refine Call_ (cW I hg hm boot_range (PyProof.Rows.callWith_type1 (thn (ha pos pins s σ H _ I h) fun us s1 ⟨vs, H1, I1, r1, q1⟩ => ?_) (by rw [hs, hs2]) (by rw [hs2]; rfl)))
 obtain ⟨i, j, e, ⟨q1, q2, q3, q4⟩, q⟩ := q1
 subst e
 cases r1 with
 | cons r rr =>
  cases rr with
  | cons r' rr =>
   cases rr
   obtain ⟨t, rfl⟩ := r
   obtain ⟨t', rfl⟩ := r'
   exact call_range_2 (mF I1 q1 q2 q3 q4 q)
def DP (wi : TI) (g : TG) (tb : TS) : TS := fun D σ H => wi σ H fun J H1 => ∃ W : Nat → Nat → St → Hp → Prop, (∃ m, W 0 m σ H1) ∧ ∀ i m σ H, W i m σ H →
 (J.stop i H ∧ D.nx σ H) ∨ (J.go i H ∧ ∃ N : St → Hp → Prop, (∀ σ' H', N σ' H' → ∃ m', m' < m ∧ W (i + 1) m' σ' H') ∧ ∀ x H', J.yld i H x H' → g x σ H' fun σ2 H2 => tb { D with nx := N, ct := N, bk := D.nx } σ2 H2)
def br (fp : List Addr) (h : Heap) : List (Addr × Obj) := fp.filterMap fun b => (h.get? b).map fun o => (b, o)
theorem bf {fp : List Addr} {h : Heap} {b : Addr} {o : Obj} (hb : b ∈ fp) (e : h.get? b = some o) : (b, o) ∈ br fp h := List.mem_filterMap.mpr ⟨b, hb, by rw [e]; rfl⟩
theorem gg {fp : List Addr} {h : Heap} {p : Addr × Obj} (hp : p ∈ br fp h) : p.1 ∈ fp ∧ h.get? p.1 = some p.2 := by
 obtain ⟨b, hb, e⟩ := List.mem_filterMap.mp hp
 cases q : h.get? b with
 | none => rw [q] at e; cases e
 | some o =>
  rw [q] at e
  have e' : (b, o) = p := Option.some.inj e
  subst e'
  exact ⟨hb, q⟩
theorem Inv.pinned {pins : List (Addr × Obj)} {σ : St} {H : Hp} {s : Shared} {fp : List Addr} (I : Inv X pins σ H s) (hf : ∀ b ∈ fp, nV X pins H b) (ho : ∀ b ∈ fp, ∃ o, s.heap.get? b = some o ∧ ∀ v, o.data ≠ .cell v) : Inv X (pins ++ br fp s.heap) σ H s :=
 I.pins_of fun p hp => (List.mem_append.mp hp).elim (fun z => I.pin p (List.mem_append_right _ z)) fun z => by
  obtain ⟨hb, e⟩ := gg z
  obtain ⟨f0, f1, f2, _⟩ := hf p.1 hb
  obtain ⟨o, e', d⟩ := ho p.1 hb
  rw [e] at e'; cases e'
  exact ⟨e, f0, f1, f2, d⟩
theorem Inv.unpinned {pins pl : List (Addr × Obj)} {σ : St} {H : Hp} {s : Shared} (I : Inv X (pins ++ pl) σ H s) : Inv X pins σ H s := I.pins_of fun p hp => I.pin p (List.mem_append_right _ (List.mem_append_left _ hp))
theorem uC {iter : Expr} {body : List Stmt} {wi : TI} {g : TG} {tb : TS} {pos : Pos} (hp : PassesOwn (model X.prog X.w) X.A X.env X.xe) (hc : X.calm = true) (hi : PI X tg iter wi) (hg : PG X tg g) (hb : PSs X body tb)
 (hs : ∀ x, foldedSetIterable iter X.env x = pure x := by intro _; rfl) : PS X (.For tg iter body [] pos) (DP wi g tb) := by
 intro pins s σ H D I h
 refine wpAny_For (thn (hi pins s σ H _ I h) fun v s1 h1 => thn h1 fun itv s2 h2 => ?_) hs
 obtain ⟨it, fp, tn, J, H2, e, I2, T, st2, f2, W, ⟨m0, w0⟩, turn⟩ := h2
 subst e
 have stat : ∀ {H' : Hp}, (∀ b ∈ fp, H' b = none) → ∀ b ∈ fp, nV X pins H' b := fun hn b hb => ⟨hn b hb, (f2 b hb).2⟩
 refine codeAny_forLoop_any (fun n s' => ∃ i σ' H', Inv X pins σ' H' s' ∧ tn i s'.heap ∧ (∀ b ∈ fp, H' b = none) ∧ W i n σ' H') ?_ m0 ⟨0, σ, H2, I2, st2, fun b hb => (f2 b hb).1, w0⟩
 rintro n s3 ⟨i, σ3, H3, I3, st3, fr3, w3⟩
 rcases turn i n σ3 H3 w3 with ⟨stop, qn⟩ | ⟨go, N, hN, step⟩
 · refine wpAny_passesOwn hp (thn (T.done X rfl rfl rfl hc i pins s3 σ3 H3 X.xe I3 (stat fr3) st3 stop) fun r s4 ⟨hr, I4⟩ => ?_)
   subst hr
   exact wpAny_execs_nil ⟨σ3, H3, I4, qn⟩
 · refine wpAny_passesOwn hp (thn (T.item X rfl rfl rfl hc i pins s3 σ3 H3 X.xe I3 (stat fr3) st3 go) fun r s4 ⟨u, hr, h4⟩ => ?_)
   subst hr
   refine wpAny_passesOwn hp (thn h4 fun _ s5 ⟨x, H5, I5, r5, y5, st5, fr5⟩ => ?_)
   have I5' := I5.pinned (stat fr5) (T.obj _ _ st5)
   refine wpAny_passesOwn hp (thn (hg _ s5 σ3 H5 x u _ I5' r5 (step x H5 y5)) fun _ s6 ⟨σ6, H6, I6, q6⟩ => ?_)
   refine wpAny_passesOwn hp (thn (hb _ s6 σ6 H6 _ I6 q6) fun f s7 q7 => ?_)
   have again : ∀ {σ7 : St} {H7 : Hp}, Inv X (pins ++ br fp s5.heap) σ7 H7 s7 → N σ7 H7 → ∃ m, m < n ∧ ∃ i σ' H', Inv X pins σ' H' s7 ∧ tn i s7.heap ∧ (∀ b ∈ fp, H' b = none) ∧ W i m σ' H' := fun {σ7 H7} I7 n7 => by
    obtain ⟨m', hm, w7⟩ := hN σ7 H7 n7
    refine ⟨m', hm, i + 1, σ7, H7, I7.unpinned, T.keep _ _ _ st5 fun b hb o e => (I7.pin (b, o) (List.mem_append_right _ (List.mem_append_right _ (bf hb e)))).1, fun b hb => ?_, w7⟩
    obtain ⟨o, e, d⟩ := T.obj _ _ st5 b hb
    exact (I7.pin (b, o) (List.mem_append_right _ (List.mem_append_right _ (bf hb e)))).2.1
   cases f with
   | next => obtain ⟨σ7, H7, I7, n7⟩ := q7; exact again I7 n7
   | cont => obtain ⟨σ7, H7, I7, n7⟩ := q7; exact again I7 n7
   | brk => obtain ⟨σ7, H7, I7, q7⟩ := q7; exact ⟨σ7, H7, I7.unpinned, q7⟩
   | ret v => obtain ⟨x7, σ7, H7, I7, r7, q7⟩ := q7; exact ⟨x7, σ7, H7, I7.unpinned, r7, q7⟩
end
abbrev R2 := V → V → Hp → VK → Prop
def OpR (X : Cx) (f : Value → Value → Sem Value) (r : R2) : Prop :=
 ∀ (pins : List (Addr × Obj)) (s : Shared) (σ : St) (H : Hp) (x y : V) (v u : Value) (Q : VK), Inv X pins σ H s → RelV x v → RelV y u → r x y H Q →
  wpAny (model X.prog X.w) X.A (f v u) (EP X pins σ Q) X.xe s
def UnR (X : Cx) (f : Value → Sem Value) (r : V → Hp → VK → Prop) : Prop :=
 ∀ (pins : List (Addr × Obj)) (s : Shared) (σ : St) (H : Hp) (x : V) (v : Value) (Q : VK), Inv X pins σ H s → RelV x v → r x H Q →
  wpAny (model X.prog X.w) X.A (f v) (EP X pins σ Q) X.xe s
def CallR (X : Cx) (f : Value) (r : List V → Hp → VK → Prop) : Prop :=
 ∀ (pins : List (Addr × Obj)) (s : Shared) (σ : St) (H : Hp) (xs : List V) (us : List Value) (Q : VK), Inv X pins σ H s → Vals xs us → r xs H Q →
  wpAny (model X.prog X.w) X.A (call f us) (EP X pins σ Q) X.xe s
def tOp (r : R2) (ta tb : TE) : TE := fun σ H Q => ta σ H fun x H1 => tb σ H1 fun y H2 => r x y H2 Q
def tUn (r : V → Hp → VK → Prop) (ta : TE) : TE := fun σ H Q => ta σ H fun x H1 => r x H1 Q
def rI (C : Int → Int → Prop) (g : Int → Int → V) : R2 := fun x y H Q => ∃ i j, x = .int i ∧ y = .int j ∧ C i j ∧ Q (g i j) H
def rI0 (g : Int → Int → V) : R2 := fun x y H Q => ∃ i j, x = .int i ∧ y = .int j ∧ Q (g i j) H
def rU (g : Int → V) : V → Hp → VK → Prop := fun x H Q => ∃ i, x = .int i ∧ Q (g i) H
section
variable {X : Cx} {a b c : Expr} {ta tb tc : TE} {pos : Pos}
theorem By (ha : PE X a ta) (hb : PE X b tb) {pins : List (Addr × Obj)} {s : Shared} {σ : St} {H : Hp} {R : V → V → Hp → Prop} (I : Inv X pins σ H s)
 (h : ta σ H fun x H1 => tb σ H1 fun y H2 => R x y H2) {Q : Value → Shared → Prop} {f : Value → Value → Sem Value}
 (hf : ∀ v u s2 x y H2, Inv X pins σ H2 s2 → RelV x v → RelV y u → R x y H2 → wpAny (model X.prog X.w) X.A (f v u) Q X.xe s2) :
 wpAny (model X.prog X.w) X.A (eval a X.env) (fun v s₁ => wpAny (model X.prog X.w) X.A (eval b X.env) (fun u s₂ => wpAny (model X.prog X.w) X.A (f v u) Q X.xe s₂) X.xe s₁) X.xe s := by
 refine thn (ha pins s σ H _ I h) fun v s1 ⟨x, H1, I1, r1, q1⟩ => ?_
 refine thn (hb pins s1 σ H1 _ I1 q1) fun u s2 ⟨y, H2, I2, r2, q2⟩ => ?_
 exact hf v u s2 x y H2 I2 r1 r2 q2
theorem Bz {op : Operator} {r : R2} (ho : OpR X (binaryOp op) r) (ha : PE X a ta) (hb : PE X b tb) : PE X (.BinOp a op b pos) (tOp r ta tb) := by
 intro pins s σ H Q I h
 exact wpAny_BinOp (By ha hb I h fun v u s2 x y H2 I2 rx ry q => ho pins s2 σ H2 x y v u Q I2 rx ry q)
theorem BA {op : UnaryOp} {r : V → Hp → VK → Prop} (ho : UnR X (unaryOp op) r) (ha : PE X a ta) : PE X (.UnaryOp op a pos) (tUn r ta) := by
 intro pins s σ H Q I h
 exact UnaryOp_ (thn (ha pins s σ H _ I h) fun v s1 ⟨x, H1, I1, r1, q1⟩ => ho pins s1 σ H1 x v Q I1 r1 q1)
theorem opI {f : Value → Value → Sem Value} {C : Int → Int → Prop} {g : Int → Int → Int}
 (rule : ∀ (i j : Int) (t u : Tok) (s : Shared) (Q : Value → Shared → Prop) (E : Value → Shared → Prop), C i j → Q (.int (g i j) s.toks) { s with toks := s.toks + 1 } → wpAny (model X.prog X.w) X.A (f (.int i t) (.int j u)) Q E s) :
 OpR X f (rI C fun i j => .int (g i j)) := by
 intro pins s σ H x y v u Q I rx ry h
 obtain ⟨i, j, rfl, rfl, hc, q⟩ := h
 obtain ⟨t, rfl⟩ := rx
 obtain ⟨t', rfl⟩ := ry
 exact rule i j t t' s _ _ hc ⟨.int (g i j), H, I.tok _, ⟨_, rfl⟩, q⟩
theorem C8 {f : Value → Value → Sem Value} {g : Int → Int → Int}
 (rule : ∀ (i j : Int) (t u : Tok) (s : Shared) (Q : Value → Shared → Prop) (E : Value → Shared → Prop), Q (.int (g i j) s.toks) { s with toks := s.toks + 1 } → wpAny (model X.prog X.w) X.A (f (.int i t) (.int j u)) Q E s) :
 OpR X f (rI0 fun i j => .int (g i j)) := by
 intro pins s σ H x y v u Q I rx ry h
 obtain ⟨i, j, rfl, rfl, q⟩ := h
 obtain ⟨t, rfl⟩ := rx
 obtain ⟨t', rfl⟩ := ry
 exact rule i j t t' s _ _ ⟨.int (g i j), H, I.tok _, ⟨_, rfl⟩, q⟩
theorem BB {f : Value → Value → Sem Value} {g : Int → Int → Bool}
 (rule : ∀ (i j : Int) (t u : Tok) (s : Shared) (Q : Value → Shared → Prop) (E : Value → Shared → Prop), Q (.bool (g i j)) s → wpAny (model X.prog X.w) X.A (f (.int i t) (.int j u)) Q E s) :
 OpR X f (rI0 fun i j => .bl (g i j)) := by
 intro pins s σ H x y v u Q I rx ry h
 obtain ⟨i, j, rfl, rfl, q⟩ := h
 obtain ⟨t, rfl⟩ := rx
 obtain ⟨t', rfl⟩ := ry
 exact rule i j t t' s _ _ ⟨.bl (g i j), H, I, rfl, q⟩
def C9 (i j : Int) : Prop := 0 < j ∧ j < 1073741824
def CMul (i j : Int) : Prop := (-(2 ^ 64) < i ∧ i < 2 ^ 64) ∨ (-(2 ^ 64) < j ∧ j < 2 ^ 64)
theorem CMul.ok {i j : Int} (h : CMul i j) : IntMulOk i j := by
 rcases h with ⟨h1, h2⟩ | ⟨h1, h2⟩
 · exact .of_left (intBits_le_64 h1 h2)
 · exact .of_right (intBits_le_64 h1 h2)
theorem op_add : OpR X (binaryOp .Add) (rI0 fun i j => .int (i + j)) := C8 fun _ _ _ _ _ _ _ q => add_int q
theorem ya : OpR X (binaryOp .Sub) (rI0 fun i j => .int (i - j)) := C8 fun _ _ _ _ _ _ _ q => sub_int q
theorem yb : OpR X (binaryOp .Mult) (rI CMul fun i j => .int (i * j)) := opI fun _ _ _ _ _ _ _ hc q => mul_int q hc.ok
theorem vw : OpR X (binaryOp .FloorDiv) (rI C9 fun i j => .int (i / j)) := opI fun i j _ _ _ _ _ hc q => by
 have h1 : (0 : Int) < j := hc.1
 have h2 : j < 1073741824 := hc.2
 exact floordiv_int (by omega) (by rw [Int.fdiv_eq_ediv_of_nonneg i (by omega)]; exact q) (.inl (PyProof.noPylong_small (by omega)))
theorem yc : OpR X (binaryOp .Mod) (rI (fun _ j => 0 < j) fun i j => .int (i % j)) := opI fun i j _ _ _ _ _ hc q => by
 have h1 : (0 : Int) < j := hc
 exact mod_int' (by omega) (by rw [Int.fmod_eq_emod_of_nonneg i (by omega)]; exact q)
theorem unI {f : Value → Sem Value} {g : Int → Int}
 (rule : ∀ (i : Int) (t : Tok) (s : Shared) (Q : Value → Shared → Prop) (E : Value → Shared → Prop), Q (.int (g i) s.toks) { s with toks := s.toks + 1 } → wpAny (model X.prog X.w) X.A (f (.int i t)) Q E s) :
 UnR X f (rU fun i => .int (g i)) := by
 intro pins s σ H x v Q I rx h
 obtain ⟨i, rfl, q⟩ := h
 obtain ⟨t, rfl⟩ := rx
 exact rule i t s _ _ ⟨.int (g i), H, I.tok _, ⟨_, rfl⟩, q⟩
theorem yd : UnR X (unaryOp .USub) (rU fun i => .int (-i)) := unI fun _ _ _ _ _ q => neg_int q
end
def BC : V → V → Bool
 | .non, .non => true | .non, .int _ => true | .int _, .non => true | .non, .bl _ => true | .bl _, .non => true | .non, .str _ => true | .str _, .non => true
 | .int _, .int _ => true | .bl _, .bl _ => true | .str _, .str _ => true | .byt _, .byt _ => true
 | .int _, .str _ => true | .str _, .int _ => true | .bl _, .str _ => true | .str _, .bl _ => true
 | _, _ => false
def rEq : R2 := fun x y H Q => BC x y = true ∧ Q (.bl (decide (x = y))) H
def rNe : R2 := fun x y H Q => BC x y = true ∧ Q (.bl (!decide (x = y))) H
theorem lD {i j : Int} : decide (V.int i = V.int j) = (i == j) := by
 rw [Bool.eq_iff_iff]
 simp
theorem pb {i j : Bool} : decide (V.bl i = V.bl j) = (i == j) := by
 rw [Bool.eq_iff_iff]
 simp
theorem lE {i j : Str} : decide (V.str i = V.str j) = (i == j) := by
 rw [Bool.eq_iff_iff]
 simp
theorem pc {i j : Array UInt8} : decide (V.byt i = V.byt j) = (i.toList == j.toList) := by
 rw [Bool.eq_iff_iff]
 cases i
 cases j
 simp
section
variable {X : Cx} {a b c : Expr} {ta tb tc : TE} {pos : Pos}
theorem ay {pins : List (Addr × Obj)} {σ : St} {H : Hp} {s : Shared} {Q : VK} {k k' : Bool} (I : Inv X pins σ H s) (q : Q (.bl k) H) (e : k = k') : EP X pins σ Q (.bool k') s := by
 subst e
 exact ⟨.bl k, H, I, rfl, q⟩
theorem op_eq : OpR X (compareOp .Eq) rEq := by
 intro pins s σ H x y v u Q I rx ry h
 obtain ⟨hs, q⟩ := h
 cases x with
 | non =>
  cases rx
  cases y with
  | non => cases ry; exact PySem.EqNone.eq_none_none (ay I q (by simp))
  | bl j => cases ry; exact PySem.EqNone.eq_none_bool (ay I q (by simp))
  | int j => obtain ⟨t', rfl⟩ := ry; exact PySem.EqNone.eq_none_int (ay I q (by simp))
  | str j => obtain ⟨t', rfl⟩ := ry; exact PySem.EqNone.eq_none_str (ay I q (by simp))
  | _ => exact absurd (show false = true from hs) Bool.false_ne_true
 | bl i =>
  cases rx
  cases y with
  | non => cases ry; exact PySem.EqNone.eq_bool_none (ay I q (by simp))
  | bl j => cases ry; exact eq_bool (ay I q pb)
  | str j => obtain ⟨t', rfl⟩ := ry; exact PySem.EqMixed.eq_bool_str (ay I q (by simp))
  | _ => exact absurd (show false = true from hs) Bool.false_ne_true
 | int i =>
  obtain ⟨t, rfl⟩ := rx
  cases y with
  | non => cases ry; exact PySem.EqNone.eq_int_none (ay I q (by simp))
  | int j => obtain ⟨t', rfl⟩ := ry; exact eq_int (ay I q lD)
  | str j => obtain ⟨t', rfl⟩ := ry; exact PySem.EqMixed.eq_int_str (ay I q (by simp))
  | _ => exact absurd (show false = true from hs) Bool.false_ne_true
 | str i =>
  obtain ⟨t, rfl⟩ := rx
  cases y with
  | non => cases ry; exact PySem.EqNone.eq_str_none (ay I q (by simp))
  | bl j => cases ry; exact PySem.EqMixed.eq_str_bool (ay I q (by simp))
  | int j => obtain ⟨t', rfl⟩ := ry; exact PySem.EqMixed.eq_str_int (ay I q (by simp))
  | str j => obtain ⟨t', rfl⟩ := ry; exact eq_str (ay I q lE)
  | _ => exact absurd (show false = true from hs) Bool.false_ne_true
 | byt i =>
  obtain ⟨t, rfl⟩ := rx
  cases y with
  | byt j => obtain ⟨t', rfl⟩ := ry; exact PySem.W.eq_bytes (ay I q pc)
  | _ => exact absurd (show false = true from hs) Bool.false_ne_true
 | _ => cases y <;> exact absurd (show false = true from hs) Bool.false_ne_true
theorem op_ne : OpR X (compareOp .NotEq) rNe := by
 intro pins s σ H x y v u Q I rx ry h
 obtain ⟨hs, q⟩ := h
 cases x with
 | non =>
  cases rx
  cases y with
  | non => cases ry; exact PySem.EqNone.ne_none_none (ay I q (by simp))
  | bl j => cases ry; exact PySem.EqNone.ne_none_bool (ay I q (by simp))
  | int j => obtain ⟨t', rfl⟩ := ry; exact PySem.EqNone.ne_none_int (ay I q (by simp))
  | str j => obtain ⟨t', rfl⟩ := ry; exact PySem.EqNone.ne_none_str (ay I q (by simp))
  | _ => exact absurd (show false = true from hs) Bool.false_ne_true
 | bl i =>
  cases rx
  cases y with
  | non => cases ry; exact PySem.EqNone.ne_bool_none (ay I q (by simp))
  | bl j => cases ry; exact ne_bool (ay I q (congrArg not pb))
  | str j => obtain ⟨t', rfl⟩ := ry; exact PySem.EqMixed.ne_bool_str (ay I q (by simp))
  | _ => exact absurd (show false = true from hs) Bool.false_ne_true
 | int i =>
  obtain ⟨t, rfl⟩ := rx
  cases y with
  | non => cases ry; exact PySem.EqNone.ne_int_none (ay I q (by simp))
  | int j => obtain ⟨t', rfl⟩ := ry; exact ne_int (ay I q (congrArg not lD))
  | str j => obtain ⟨t', rfl⟩ := ry; exact PySem.EqMixed.ne_int_str (ay I q (by simp))
  | _ => exact absurd (show false = true from hs) Bool.false_ne_true
 | str i =>
  obtain ⟨t, rfl⟩ := rx
  cases y with
  | non => cases ry; exact PySem.EqNone.ne_str_none (ay I q (by simp))
  | bl j => cases ry; exact PySem.EqMixed.ne_str_bool (ay I q (by simp))
  | int j => obtain ⟨t', rfl⟩ := ry; exact PySem.EqMixed.ne_str_int (ay I q (by simp))
  | str j => obtain ⟨t', rfl⟩ := ry; exact ne_str (ay I q (congrArg not lE))
  | _ => exact absurd (show false = true from hs) Bool.false_ne_true
 | byt i =>
  obtain ⟨t, rfl⟩ := rx
  cases y with
  | byt j => obtain ⟨t', rfl⟩ := ry; exact PySem.W.ne_bytes (ay I q (congrArg not pc))
  | _ => exact absurd (show false = true from hs) Bool.false_ne_true
 | _ => cases y <;> exact absurd (show false = true from hs) Bool.false_ne_true
theorem op_lt : OpR X (compareOp .Lt) (rI0 fun i j => .bl (decide (i < j))) := BB fun _ _ _ _ _ _ _ q => lt_int q
theorem op_le : OpR X (compareOp .LtE) (rI0 fun i j => .bl (decide (i ≤ j))) := BB fun _ _ _ _ _ _ _ q => le_int q
theorem BD : OpR X (compareOp .Gt) (rI0 fun i j => .bl (decide (j < i))) := BB fun _ _ _ _ _ _ _ q => gt_int q
theorem pe : OpR X (compareOp .Lt) (fun x y H Q => ∃ i j, x = .str i ∧ y = .str j ∧ Q (.bl (decide (i.cps.toList < j.cps.toList))) H) := by
 intro pins s σ H x y v u Q I rx ry h
 obtain ⟨i, j, rfl, rfl, q⟩ := h
 obtain ⟨t, rfl⟩ := rx
 obtain ⟨t', rfl⟩ := ry
 exact lt_str (ay I q rfl)
theorem op_in_str : OpR X (compareOp .In) (fun x y H Q => ∃ i j, x = .str i ∧ y = .str j ∧ Q (.bl (!(Builtin.Str.occurrences j i 0 j.length 1).isEmpty)) H) := by
 intro pins s σ H x y v u Q I rx ry h
 obtain ⟨i, j, rfl, rfl, q⟩ := h
 obtain ⟨t, rfl⟩ := rx
 obtain ⟨t', rfl⟩ := ry
 exact in_str (ay I q rfl)
theorem uD : OpR X (compareOp .Is) (fun x y H Q => y = .non ∧ Q (.bl (decide (x = .non))) H) := by
 intro pins s σ H x y v u Q I rx ry h
 obtain ⟨rfl, q⟩ := h
 cases ry
 refine is_none_gen (ay I q ?_)
 cases x <;> first
  | (cases rx; rfl)
  | (obtain ⟨t, rfl⟩ := rx; rfl)
theorem OpR.or {f : Value → Value → Sem Value} {r r' : R2} (h : OpR X f r) (h' : OpR X f r') : OpR X f (fun x y H Q => r x y H Q ∨ r' x y H Q) := by
 intro pins s σ H x y v u Q I rx ry q
 rcases q with q | q
 · exact h pins s σ H x y v u Q I rx ry q
 · exact h' pins s σ H x y v u Q I rx ry q
theorem Da (b : Expr) {op : CmpOp} (h : op ≠ .In := by decide) (h2 : op ≠ .NotIn := by decide) : behindInMarks op b = false := by
 have e1 : (op == CmpOp.In) = false := by cases op <;> first | rfl | exact absurd rfl h
 have e2 : (op == CmpOp.NotIn) = false := by cases op <;> first | rfl | exact absurd rfl h2
 cases b <;> simp [behindInMarks, e1, e2]
theorem vx {op : CmpOp} {r : R2} (ho : OpR X (compareOp op) r) (ha : PE X a ta) (hb : PE X b tb) (hm : behindInMarks op b = false) : PE X (.Compare a [op] [b] pos) (tOp r ta tb) := by
 intro pins s σ H Q I h
 exact wpAny_Compare1 (By ha hb I h fun v u s2 x y H2 I2 rx ry q => ho pins s2 σ H2 x y v u Q I2 rx ry q) hm
def BE (t : TE) : TT := fun σ H Q => t σ H fun x H' => ∃ k, x = .bl k ∧ Q k H'
theorem vy {op : CmpOp} {r : R2} (ho : OpR X (compareOp op) r) (ha : PE X a ta) (hb : PE X b tb) (hm : behindInMarks op b = false) : PT X (.Compare a [op] [b] pos) (BE (tOp r ta tb)) := by
 intro pins s σ H Q I h
 refine wpAny_isTrue_Compare1 (thn (ha pins s σ H _ I h) fun v s1 ⟨x, H1, I1, r1, q1⟩ => thn (hb pins s1 σ H1 _ I1 q1) fun u s2 ⟨y, H2, I2, r2, q2⟩ =>
  thn (ho pins s2 σ H2 x y v u _ I2 r1 r2 q2) fun c s3 ⟨z, H3, I3, r3, k, e, q3⟩ => ?_) hm
 subst e
 cases r3
 exact wpAny_truthy_bool ⟨H3, I3, q3⟩
theorem mG : (sizeLine : Nat) < 2 ^ 63 := by rw [sizeLine_eq]; decide
theorem op_add_str : OpR X (binaryOp .Add) (fun x y H Q => ∃ i j, x = .str i ∧ y = .str j ∧ i.length + j.length ≤ sizeLine ∧ Q (.str (i ++ j)) H) := by
 intro pins s σ H x y v u Q I rx ry h
 obtain ⟨i, j, rfl, rfl, hz, q⟩ := h
 obtain ⟨t, rfl⟩ := rx
 obtain ⟨t', rfl⟩ := ry
 exact add_str (fun t' tk => ⟨.str (i ++ j), H, I.tok _, ⟨_, rfl⟩, q⟩) hz
theorem b5 {x : V} {us : List Value} (r : Vals [x] us) : ∃ u, us = [u] ∧ RelV x u := by
 cases r with
 | cons r1 r2 => cases r2; exact ⟨_, rfl, r1⟩
theorem vz {x y : V} {us : List Value} (r : Vals [x, y] us) : ∃ u w', us = [u, w'] ∧ RelV x u ∧ RelV y w' := by
 cases r with
 | cons r1 r2 =>
  cases r2 with
  | cons r3 r4 => cases r4; exact ⟨_, _, rfl, r1, r3⟩
theorem pf (hc : X.calm = true) : CallR X (.builtin "max") (fun xs H Q => ∃ i j, xs = [.int i, .int j] ∧ Q (.int (if j > i then j else i)) H) := by
 intro pins s σ H xs us Q I r h
 obtain ⟨i, j, rfl, q⟩ := h
 obtain ⟨u, w', rfl, ⟨t, rfl⟩, ⟨t', rfl⟩⟩ := vz r
 refine max_two_ints (I.ok.hd hc) fun h' tk k => ⟨_, H, I.kept k, ?_, q⟩
 by_cases hj : j > i
 · rw [if_pos hj, if_pos hj]; exact ⟨_, rfl⟩
 · rw [if_neg hj, if_neg hj]; exact ⟨_, rfl⟩
theorem ph (hc : X.calm = true) : CallR X (.builtin "min") (fun xs H Q => ∃ i j, xs = [.int i, .int j] ∧ Q (.int (if j < i then j else i)) H) := by
 intro pins s σ H xs us Q I r h
 obtain ⟨i, j, rfl, q⟩ := h
 obtain ⟨u, w', rfl, ⟨t, rfl⟩, ⟨t', rfl⟩⟩ := vz r
 refine min_two_ints (I.ok.hd hc) fun h' tk k => ⟨_, H, I.kept k, ?_, q⟩
 by_cases hj : j < i
 · rw [if_pos hj, if_pos hj]; exact ⟨_, rfl⟩
 · rw [if_neg hj, if_neg hj]; exact ⟨_, rfl⟩
def DQ (K : PySem.W.Frag) (x : V) (H : Hp) (n : Nat) : Prop :=
 match x with
 | .str y => y.length ≤ sizeLine ∧ n = y.length
 | .byt y => y.size ≤ sizeLine ∧ n = y.size
 | .ref p => (∃ xs, SqL K H p xs ∧ n = xs.length) ∨ ∃ xs, SqT K H p xs ∧ n = xs.length
 | _ => False
theorem sD : CallR X (.builtin "len") (fun xs H Q => ∃ x n, xs = [x] ∧ DQ X.K x H n ∧ Q (.int n) H) := by
 intro pins s σ H xs us Q I r h
 obtain ⟨x, n, rfl, e, q⟩ := h
 obtain ⟨u, rfl, rx⟩ := b5 r
 have hl := mG
 have hs : sizeLine = 16777216 := sizeLine_eq
 cases x with
 | str y =>
  obtain ⟨t, rfl⟩ := rx
  obtain ⟨hy, e'⟩ : y.length ≤ sizeLine ∧ n = y.length := e
  subst e'
  exact len_str (by omega) ⟨.int _, H, I.tok _, ⟨_, rfl⟩, q⟩
 | byt y =>
  obtain ⟨t, rfl⟩ := rx
  obtain ⟨hy, e'⟩ : y.size ≤ sizeLine ∧ n = y.size := e
  subst e'
  exact PySem.W.len_bytes (by omega) ⟨.int _, H, I.tok _, ⟨_, rfl⟩, q⟩
 | ref p =>
  cases rx
  have e' : (∃ xs, SqL X.K H p xs ∧ n = xs.length) ∨ ∃ xs, SqT X.K H p xs ∧ n = xs.length := e
  rcases e' with ⟨xs, hx, e'⟩ | ⟨xs, hx, e'⟩
  · subst e'
    obtain ⟨its, r', pl, hz⟩ := I.list hx
    have hlen := r'.length
    exact Calls.call_len_list pl.isList (by simp only [List.size_toArray]; omega) ⟨.int xs.length, H, I.tok _, ⟨_, by simp only [List.size_toArray]; rw [hlen]⟩, q⟩
  · subst e'
    obtain ⟨its, r', pl, hz⟩ := I.tuple hx
    have hlen := r'.length
    exact len_tuple pl (by simp only [List.size_toArray]; omega) ⟨.int xs.length, H, I.tok _, ⟨_, by simp only [List.size_toArray]; rw [hlen]⟩, q⟩
 | _ => exact (show False from e).elim
end
structure ObjM (h : Heap) (x dx C : Addr) (mA : Str → Option Value) : Prop where
 obj : h.get? x = some (PySem.W.instObj C dx)
 ns : h.Ns1 dx mA
 ne : dx ≠ x
theorem pk {h : Heap} {dx : Addr} {mA : Str → Option Value} (n : h.Ns1 dx mA) : ∃ od, h.get? dx = some od ∧ ∀ name, PySem.W.lookIn name od = some (mA name) := by
 obtain ⟨o, es, ep, ho, hd, hk, _, hm⟩ := n
 refine ⟨o, ho, fun name => ?_⟩
 have e := hm name
 unfold nsFind findBy at e
 rw [← Array.find?_toList] at e
 unfold PySem.W.lookIn
 rw [hd]
 dsimp only
 split
 · rename_i y q
   rw [q] at e
   exact congrArg some e
 · rename_i q
   rw [q] at e
   have a : es.toList.any (·.refKey) = false := by
    rw [List.any_eq_false]
    intro y hy
    obtain ⟨z, t, hkey⟩ := hk y (Array.mem_toList_iff.mp hy)
    simp [DictEntry.refKey, hkey]
   have a' : ¬ es.toList.any (·.refKey) = true := by rw [a]; exact Bool.false_ne_true
   rw [if_neg a']
   exact congrArg some e
theorem ObjM.look {h : Heap} {x dx C : Addr} {mA : Str → Option Value} (I : ObjM h x dx C mA) : ∃ od, PySem.W.InstAt h x (PySem.W.instObj C dx) C (some od) ∧ ∀ name, PySem.W.lookIn name od = some (mA name) :=
 let ⟨od, ho, hl⟩ := pk I.ns
 ⟨od, ⟨I.obj, rfl, rfl, ho⟩, hl⟩
section
variable {prog : Program} {w : World} {A : Around} {E : Value → Shared → Prop} {s : Shared} {K : PySem.W.Frag} {x dx C f : Addr} {mA : Str → Option Value} {name : Str} {v : Value}
end
section
variable {P : Program} {w : World} {H H' : Hp} {h h' : Heap} {a C dx : Addr} {fs fs' : List (Str × V)}
theorem vA (hok : HOk P w H h) (e : H a = some (.ins C dx fs)) : ∃ mA, ObjM h a dx C mA ∧ (∀ f, Bn (fs.lookup f) (mA f)) ∧ PySem.Within mA (fs.map (·.1)) ∧ fs.length ≤ 1000 ∧ H dx = some (.own a) := by
 obtain ⟨d, z, ne, ob, mA, n, r, q⟩ := (show ObjOk P w H h a (.ins C dx fs) from hok a _ e)
 exact ⟨mA, ⟨ob, n, ne⟩, r, q, z, d⟩
end
structure Cls (K : PySem.W.Frag) (C : Addr) : Prop where
 pg : PySem.W.plainGet K C Str.empty = true
 hd : PySem.W.hasDictIn K C = true
 po : PySem.W.plainOver K C = true
 sa : PySem.W.findIn K (.ref C) "__setattr__" = some (some (.builtin "object.__setattr__"))
theorem Cls.get {K : PySem.W.Frag} {C : Addr} (c : Cls K C) (f : Str) : PySem.W.plainGet K C f = true := c.pg
structure Con (K : PySem.W.Frag) (C : Addr) (f : Str) (v : V) (u : Value) : Prop where
 at_ : PySem.W.findIn K (.ref C) f = some (some u)
 rel : RelV v u
 get : PySem.W.specialIn K u "__get__" = some none
 cp : PySem.W.copiedNames.contains f = false
structure EB (K : PySem.W.Frag) (C : Addr) (m : Str) (f : Addr) : Prop where
 at_ : PySem.W.findIn K (.ref C) m = some (some (.ref f))
 fn : PySem.W.isFn K (.ref f) = true
 kp : PySem.W.keepIn K (.ref f) = true
section
variable {X : Cx} {pins : List (Addr × Obj)} {σ : St} {H : Hp} {s : Shared} {a C dx : Addr} {fs : List (Str × V)} {f : Str} {v : V} {A : Around} {E : Value → Shared → Prop}
theorem Inv.made (I : Inv X pins σ H s) : Inv X pins σ (upd (upd H s.heap.objs.size (.own (s.heap.objs.size + 1))) (s.heap.objs.size + 1) (.ins C s.heap.objs.size []))
 { s with heap := (s.heap.push PySem.W.emptyDict).push (PySem.W.instObj C s.heap.objs.size) } := by
 have e1 : (s.heap.push PySem.W.emptyDict).get? s.heap.objs.size = some PySem.W.emptyDict := Heap.get?_push_size s.heap rfl
 have e2 : ((s.heap.push PySem.W.emptyDict).push (PySem.W.instObj C s.heap.objs.size)).get? (s.heap.objs.size + 1) = some (PySem.W.instObj C s.heap.objs.size) := by
  have := Heap.get?_push_size (s.heap.push PySem.W.emptyDict) (o := PySem.W.instObj C s.heap.objs.size) rfl
  rwa [Heap.size_push] at this
 have e3 : (s.heap.push PySem.W.emptyDict).Ns s.heap.objs.size (fun _ => none) := ⟨PySem.W.emptyDict, #[], _, e1, rfl, (fun e he => absurd he (by simp)), fun _ => rfl⟩
 have I1 := I.laid (a := s.heap.objs.size) (o := .own (s.heap.objs.size + 1)) (h' := s.heap.push PySem.W.emptyDict) (t' := s.toks) (fun b u q => Heap.get?_push_of_some _ q) (Nat.le_refl _) ⟨_, e1⟩
 refine I1.laid (a := s.heap.objs.size + 1) (o := .ins C s.heap.objs.size []) (t' := s.toks) (fun b u q => Heap.get?_push_of_some _ q) (Nat.le_of_eq (Heap.size_push _ _)) ?_
 have ne : s.heap.objs.size ≠ s.heap.objs.size + 1 := Nat.ne_of_lt (Nat.lt_succ_self _)
 refine ⟨by rw [ao ne, ai], Nat.zero_le _, ne, e2, fun _ => none, (Heap.Ns1.of_empty e3).at fun o q => Heap.get?_push_of_some _ q, fun _ => True.intro, fun y hy => absurd rfl hy⟩
end
section
variable {X : Cx} {o e value : Expr} {f : Str} {pos pos' tpos : Pos} {ta tv : TE}
end
section
variable {X : Cx} {pins : List (Addr × Obj)} {σ : St} {H : Hp} {s : Shared} {A : Around} {E : Value → Shared → Prop} {Q : Value → Shared → Prop} {c : Value} {b : Bool}
inductive mH (K : PySem.W.Frag) (H : Hp) : V → Value → Prop where
 | non : mH K H .non (.type "NoneType")
 | bl (x : Bool) : mH K H (.bl x) (.type "bool")
 | int (i : Int) : mH K H (.int i) (.type "int")
 | str (x : Str) : mH K H (.str x) (.type "str")
 | flt (x : UInt64) : mH K H (.flt x) (.type "float")
 | lst {a : Addr} {xs : List V} (e : H a = some (.lst xs)) : mH K H (.ref a) (.type "list")
 | frz {a : Addr} {o : Obj} {xs : List V} (e : H a = some (.frz o (.lst xs))) : mH K H (.ref a) (.type "list")
 | tup {a : Addr} {xs : List V} (e : H a = some (.tup xs)) : mH K H (.ref a) (.type "tuple")
 | dK {a : Addr} {kvs : List (Key × V)} (e : H a = some (.dK kvs)) : mH K H (.ref a) (.type "dict")
 | dT {a : Addr} {kvs : List (List Key × V)} (e : H a = some (.dT kvs)) : mH K H (.ref a) (.type "dict")
 | ins {a C dx : Addr} {fs : List (Str × V)} (e : H a = some (.ins C dx fs)) (cl : Cls K C) (ha : PySem.W.findIn K (.ref C) "__class__" = some (some (.builtin "object.__class__")))
  (hn : PySem.W.specialIn K (.builtin "object.__class__") "__get__" = some (some (.builtin "getset_descriptor.__get__"))) (htk : PySem.W.takesIn K (.builtin "object.__class__") = some true)
  (hm : PySem.W.mroIn K C (.type "object") = some true) : mH K H (.ref a) (.ref C)
theorem pp {x : V} {u t : Value} (I : Inv X pins σ H s) (rx : RelV x u) (ty : mH X.K H x t) (e : PySem.W.kitOne X.K t c = some b) (h : ∀ tk, Q (.bool b) { s with toks := tk }) :
 wpAny (model X.prog X.w) A (call (.builtin "isinstance") [u, c]) Q E s := by
 cases ty with
 | non => cases (show u = Value.none from rx); exact PySem.W.kia_one PySem.W.kitx_none I.kIn True.intro e (fun z => nomatch z) h
 | bl y => cases (show u = Value.bool y from rx); exact PySem.W.kia_one PySem.W.kitx_bool I.kIn True.intro e (fun z => nomatch z) h
 | int i => obtain ⟨t, q⟩ := (show ∃ t, u = Value.int i t from rx); cases q; exact PySem.W.kia_one PySem.W.kitx_int I.kIn True.intro e (fun z => nomatch z) h
 | str y => obtain ⟨t, q⟩ := (show ∃ t, u = Value.str y t from rx); cases q; exact PySem.W.kia_one PySem.W.kitx_str I.kIn True.intro e (fun z => nomatch z) h
 | flt y => obtain ⟨t, q⟩ := (show ∃ t, u = Value.float y t from rx); cases q; exact PySem.W.kia_one PySem.W.kitx_float I.kIn True.intro e (fun z => nomatch z) h
 | @lst a xs ea =>
  cases (show u = Value.ref a from rx)
  obtain ⟨_, _, n, _, h1⟩ := (show ObjOk X.prog X.w H s.heap a (.lst xs) from I.hok a _ ea)
  exact PySem.W.kia_one PySem.W.kitx_list I.kIn ⟨_, h1, rfl⟩ e (fun z => nomatch z) h
 | @frz a ob xs ea =>
  cases (show u = Value.ref a from rx)
  obtain ⟨_, _, _, n, _, h1⟩ := (show ObjOk X.prog X.w H s.heap a (.frz ob (.lst xs)) from I.hok a _ ea)
  exact PySem.W.kia_one PySem.W.kitx_list I.kIn ⟨_, h1, rfl⟩ e (fun z => nomatch z) h
 | @tup a xs ea =>
  cases (show u = Value.ref a from rx)
  obtain ⟨_, _, _, p⟩ := (show ObjOk X.prog X.w H s.heap a (.tup xs) from I.hok a _ ea)
  obtain ⟨o, h1, h2, _⟩ := p
  exact PySem.W.kia_one PySem.W.kitx_tuple I.kIn ⟨o, h1, h2⟩ e (fun z => nomatch z) h
 | @dK a kvs ea =>
  cases (show u = Value.ref a from rx)
  obtain ⟨_, _, vs, _, p⟩ := (show ObjOk X.prog X.w H s.heap a (.dK kvs) from I.hok a _ ea)
  obtain ⟨o, es, ep, h1, h2, _⟩ := p
  exact PySem.W.kia_one PySem.W.kitx_dict I.kIn ⟨o, h1, h2.1⟩ e (fun z => nomatch z) h
 | @dT a kvs ea =>
  cases (show u = Value.ref a from rx)
  obtain ⟨_, _, xs, _, o, es, ep, h1, h2, _⟩ := (show ObjOk X.prog X.w H s.heap a (.dT kvs) from I.hok a _ ea)
  exact PySem.W.kia_one PySem.W.kitx_dict I.kIn ⟨o, h1, h2.1⟩ e (fun z => nomatch z) h
 | @ins a C dx fs ea cl ha hn htk hm =>
  cases (show u = Value.ref a from rx)
  obtain ⟨mA, O, _⟩ := vA I.hok ea
  obtain ⟨od, J, _⟩ := O.look
  exact PySem.W.kia_one (PySem.W.kitx_own (cl.get _) cl.hd ha hn htk hm) I.kIn J e (fun z => nomatch z) h
end
structure Room (k : Nat) (A : Around) : Prop where
 hd : A.handled = none
 dp : A.depth + 3 * k + 5 < recursionLimit
 un : A.units + 16 * k + 200 < cLine
theorem Room.mono {j k : Nat} {A : Around} (r : Room k A) (h : j ≤ k) : Room j A := ⟨r.hd, by have := r.dp; omega, by have := r.un; omega⟩
theorem Room.deeper {k : Nat} {A : Around} (r : Room (k + 1) A) (env : Env) : Room k (A.deeper env) :=
 ⟨r.hd, by have := r.dp; show A.depth + 1 + 3 * k + 5 < _; omega, by have := r.un; show A.units + 3 + 16 * k + 200 < _; omega⟩
theorem Room.in1 {k : Nat} {A : Around} (r : Room (k + 1) A) : Room k A.in1 :=
 ⟨r.hd, by have := r.dp; show A.depth + 3 * k + 5 < _; omega, by have := r.un; show A.units + 1 + 16 * k + 200 < _; omega⟩
theorem Room.depth {k : Nat} {A : Around} (r : Room k A) : A.depth < recursionLimit := by have := r.dp; omega
theorem Room.units {k : Nat} {A : Around} (r : Room k A) : A.units + 64 < cLine := by have := r.un; omega
theorem Room.units0 {k : Nat} {A : Around} (r : Room k A) : A.units < cLine := by have := r.un; omega
def DR : TA := fun _ H Q => Q [] H
def BF (ta : TE) (tr : TA) : TA := fun σ H Q => ta σ H fun x H1 => tr σ H1 fun xs H2 => Q (x :: xs) H2
section
variable {X : Cx} {e : Expr} {es : List Expr} {te : TE} {t : TA} {pos : Pos}
theorem uE : PA X [] DR := fun _ _ _ _ H Q I h => Calls.spliced_nil ⟨[], H, I, .nil, h⟩
theorem lF (ha : PE X e te) (hr : PA X es t) (hs : starEach (e :: es) X.env = (false, eval e X.env) :: starEach es X.env := by rfl) : PA X (e :: es) (BF te t) := by
 intro pos pins s σ H Q I h
 rw [hs]
 show wpAny _ _ (spliced ((false, eval e X.env) :: backTo pos (starEach es X.env))) _ _ s
 refine Calls.spliced_cons (thn (ha pins s σ H _ I h) fun u s1 ⟨x, H1, I1, r1, q1⟩ => ?_)
 exact thn (hr pos pins s1 σ H1 _ I1 q1) fun us s2 ⟨xs, H2, I2, r2, q2⟩ => ⟨x :: xs, H2, I2, .cons r1 r2, q2⟩
def DS (t : TA) : TE := fun σ H Q => t σ H fun xs H1 => xs.length ≤ sizeLine ∧ ∀ p, H1 p = none → Q (.ref p) (upd H1 p (.tup xs))
def DT (t : TA) : TE := fun σ H Q => t σ H fun xs H1 => xs.length ≤ sizeLine ∧ ∀ p, H1 p = none → Q (.ref p) (upd H1 p (.lst xs))
theorem ye {x1} (h : PA X es t) : PE X (.Tuple es x1 pos) (DS t) := by
 intro pins s σ H Q I hq
 refine wpAny_Tuple_spliced (thn (h pos pins s σ H _ I hq) fun us s1 ⟨xs, H1, I1, r, z, q⟩ => ⟨by rw [← r.length]; exact z, ?_⟩)
 have hf : H1 s1.heap.objs.size = none := I1.hok.fresh (Nat.le_refl _)
 refine ⟨.ref s1.heap.objs.size, upd H1 s1.heap.objs.size (.tup xs), I1.laid (t' := s1.toks) (fun b u e => Heap.get?_push_of_some _ e) (Nat.le_refl _) ?_, rfl, q _ hf⟩
 exact ⟨z, us, r, ⟨_, Heap.get?_push_size _ rfl, rfl, _, rfl⟩⟩
theorem uF (h : PA X es t) : PE X (.List es pos) (DT t) := by
 intro pins s σ H Q I hq
 refine wpAny_List_spliced (thn (h pos pins s σ H _ I hq) fun us s1 ⟨xs, H1, I1, r, z, q⟩ => ⟨by rw [← r.length]; exact z, ?_⟩)
 have hf : H1 s1.heap.objs.size = none := I1.hok.fresh (Nat.le_refl _)
 refine ⟨.ref s1.heap.objs.size, upd H1 s1.heap.objs.size (.lst xs), I1.laid (t' := s1.toks) (fun b u e => Heap.get?_push_of_some _ e) (Nat.le_refl _) ?_, rfl, q _ hf⟩
 exact ⟨z, us, 0, r, Heap.get?_push_size _ rfl⟩
end
abbrev Sp := List V → Hp → VK → XK → Prop
abbrev CXT := List Env → Hp → Shared → XK → Value → Shared → Prop
structure Env0 (P : Program) (w : World) (K : PySem.W.Frag) (mg : Str → Option Value) (base : Heap) (A : Around) (outer : List Env) (s : Shared) (H : Hp) : Prop where
 frames : A.frames = some outer
 mod : Mod K mg base
 bs : ∀ b o, base.get? b = some o → s.heap.get? b = some o ∧ H b = none
 bsz : base.objs.size ≤ s.heap.objs.size
 funs : s.heap.FunFrames base outer
 frf : ∀ b ∈ frs outer, H b = none
 hok : HOk P w H s.heap
 bare : AllBare s.gens
def CE (outer : List Env) (P : Program) (w : World) (H : Hp) (s : Shared) (Q : VK) (u : Value) (s' : Shared) : Prop :=
 ∃ v H', s'.os = s.os ∧ AllBare s'.gens ∧ Un (frs outer) [] H H' s.heap s'.heap ∧ HOk P w H' s'.heap ∧ RelV v u ∧ Q v H'
def CR (CX : CXT) (outer : List Env) (P : Program) (w : World) (H : Hp) (s : Shared) (Q : VK) (E : XK) (r : Result) (s' : Shared) : Prop :=
 match r with
 | .ok (.ret u) => CE outer P w H s Q u s'
 | .ok _ => False
 | .error e => CX outer H s E e s'
structure FnOk (P : Program) (w : World) (K : PySem.W.Frag) (mg : Str → Option Value) (base : Heap) (CX : CXT) (k : Nat) (f : Addr) (fd : FuncData) (ps : List Str) (sp : Sp) : Prop where
 len : ∀ vs H Q E, sp vs H Q E → vs.length = ps.length
 run : ∀ (A : Around) (outer : List Env) (s : Shared) (H : Hp) (args : Args) (us : List Value) (vs : List V) (Q : VK) (E : XK), Room k A → Env0 P w K mg base A outer s H → BindsTo s fd args (ps.zip us) → Vals vs us → sp vs H Q E →
  codeAny (model P w) A (.call (.ref f) args) (CR CX outer P w H s Q E) s
theorem FnOk.mono {P : Program} {w : World} {K : PySem.W.Frag} {mg : Str → Option Value} {base : Heap} {CX : CXT} {j k : Nat} {f : Addr} {fd : FuncData} {ps : List Str} {sp : Sp} (F : FnOk P w K mg base CX j f fd ps sp) (h : j ≤ k) :
 FnOk P w K mg base CX k f fd ps sp := ⟨F.len, fun A outer s H args us vs Q E hr => F.run A outer s H args us vs Q E (hr.mono h)⟩
theorem FnOk.imp {P : Program} {w : World} {K : PySem.W.Frag} {mg : Str → Option Value} {base : Heap} {CX : CXT} {k : Nat} {f : Addr} {fd : FuncData} {ps : List Str} {sp sp' : Sp} (F : FnOk P w K mg base CX k f fd ps sp)
 (h : ∀ vs H Q E, sp' vs H Q E → sp vs H Q E) : FnOk P w K mg base CX k f fd ps sp' :=
 ⟨fun vs H Q E q => F.len vs H Q E (h _ _ _ _ q), fun A outer s H args us vs Q E hr he hb hv hs => F.run A outer s H args us vs Q E hr he hb hv (h _ _ _ _ hs)⟩
theorem Env0.in1 {P : Program} {w : World} {K : PySem.W.Frag} {mg : Str → Option Value} {base : Heap} {A : Around} {outer : List Env} {s : Shared} {H : Hp} (e : Env0 P w K mg base A outer s H) :
 Env0 P w K mg base A.in1 outer s H := ⟨e.frames, e.mod, e.bs, e.bsz, e.funs, e.frf, e.hok, e.bare⟩
section
variable {X : Cx} {pins : List (Addr × Obj)} {σ : St} {H : Hp} {s s' : Shared}
theorem Inv.env0 (I : Inv X pins σ H s) : Env0 X.prog X.w X.K X.mg X.base X.A X.stack s H :=
 ⟨I.ok.frames, I.ok.mod, I.bs, Nat.le_trans I.ok.bsz I.sz, I.stack, I.stkFree, I.hok, I.bare⟩
theorem Inv.after {Q : VK} {u : Value} (I : Inv X pins σ H s) (h : CE X.stack X.prog X.w H s Q u s') : EP X pins σ Q u s' := by
 obtain ⟨v, H', os, bare, un, hok, r, q⟩ := h
 obtain ⟨hh, g, d, t, os'⟩ := s'
 obtain rfl : os' = s.os := os
 exact ⟨v, H', I.call (h' := hh) (g' := g) (d' := d) (t' := t) (ch := []) un hok bare (fun b z => absurd z (by simp)), r, q⟩
end
def BG (sp : Sp) (dvs : List V) (E : XK) (t : TA) : TE := fun σ H Q => t σ H fun vs H1 => sp (vs ++ dvs) H1 Q E
def Binds (K : PySem.W.Frag) (fd : FuncData) (ps : List Str) (ds : List Value) : Prop :=
 ∀ (s : Shared) (us : List Value), K.In s.heap → (us ++ ds).length = ps.length → BindsTo s fd ⟨us, []⟩ (ps.zip (us ++ ds))
theorem Binds.all {K : PySem.W.Frag} {fd : FuncData} {ps : List Str} (h : ∀ us : List Value, us.length = ps.length → bindArgs fd ⟨us, []⟩ = pure (ps.zip us)) : Binds K fd ps [] := fun s us _ hl => by
 rw [List.append_nil] at hl ⊢
 exact .of_eq (h us hl)
def pq (CX : CXT) (X : Cx) (E : XK) : Prop := ∀ (pins : List (Addr × Obj)) (σ : St) (H : Hp) (s : Shared) (e : Value) (s' : Shared), Inv X pins σ H s → CX X.stack H s E e s' → X.xe e s'
section
variable {X : Cx} {CX : CXT} {k : Nat} {f C : Addr} {fd : FuncData} {ps : List Str} {sp : Sp} {dvs : List V} {ds : List Value} {E : XK} {x m : Str} {p pos apos : Pos} {e o : Expr} {es : List Expr} {ta : TE} {t : TA}
theorem yf {pins : List (Addr × Obj)} {σ : St} {H : Hp} {s : Shared} {Q : VK} {us : List Value} {vs : List V} (F : FnOk X.prog X.w X.K X.mg X.base CX k f fd ps sp) (hr : Room k X.A) (hb : Binds X.K fd ps ds) (hd : Vals dvs ds) (hx : pq CX X E)
 (I : Inv X pins σ H s) (r : Vals vs us) (h : sp (vs ++ dvs) H Q E) : wpAny (model X.prog X.w) X.A (call (.ref f) us) (EP X pins σ Q) X.xe s := by
 have r2 : Vals (vs ++ dvs) (us ++ ds) := r.append hd
 have hl : (us ++ ds).length = ps.length := by rw [← r2.length]; exact F.len _ _ _ _ h
 refine wpAny_call (codeAny_mono (F.run X.A X.stack s H ⟨us, []⟩ (us ++ ds) (vs ++ dvs) Q E hr I.env0 (hb s us I.kIn hl) r2 h) fun r s' hq => ?_)
 cases r with
 | error e => exact hx pins σ H s e s' I hq
 | ok fl =>
  cases fl with
  | ret u => exact I.after hq
  | next => exact False.elim hq
  | brk => exact False.elim hq
  | cont => exact False.elim hq
theorem vB (F : FnOk X.prog X.w X.K X.mg X.base CX k f fd ps sp) (hr : Room k X.A) (hg : Gl X x) (hm : X.mg x = some (.ref f)) (hk : PySem.W.keepIn X.K (.ref f) = true) (hb : Binds X.K fd ps ds) (hd : Vals dvs ds) (hx : pq CX X E)
 (ha : PA X (e :: es) t) (hdb : (x == ("__debug__" : Str)) = false := by decide) (he : starEach (e :: es) X.env = (false, eval e X.env) :: starEach es X.env := by rfl) (hpl : (backTo pos (starEach es X.env)).any (·.1) = false := by rfl) :
 PE X (.Call (.Name x p) (e :: es) [] pos) (BG sp dvs E t) := by
 intro pins s σ H Q I h
 refine wpAny_Call_Name_kw (lC I hg hm ?_ hdb)
 refine PySem.W.callWith_K (h₀ := X.base) I.ok.mod.kin hk (thn (ha pos pins s σ H _ I h) fun us s1 ⟨vs, H1, I1, r, q⟩ => ⟨I1.kIn, ?_⟩) he hpl
 exact yf F hr hb hd hx I1 r q
structure Mk (K : PySem.W.Frag) (C f : Addr) : Prop where
 makes : PySem.W.makesIn K C = true
 init : PySem.W.findIn K (.ref C) "__init__" = some (some (.ref f))
 fn : PySem.W.isFn K (.ref f) = true
 kp : PySem.W.keepIn K (.ref C) = true
end
section
variable {X : Cx} {CX : CXT} {k : Nat} {f C : Addr} {fd : FuncData} {ps ks : List Str} {sp : Sp} {E : XK} {x m : Str} {p pos apos kpos : Pos} {e o : Expr} {es : List Expr} {kws : List Keyword} {te ta : TE} {t tk : TA} {nm : Option Str}
structure Db (K : PySem.W.Frag) (fd : FuncData) (ps ks : List Str) (g : List Value → List Value → List Value) (gV : List V → List V → List V) : Prop where
 to : ∀ (s : Shared) (us ws : List Value), K.In s.heap → (g us ws).length = ps.length → BindsTo s fd ⟨us, ks.zip ws⟩ (ps.zip (g us ws))
 rel : ∀ {vs : List V} {us : List Value} {zs : List V} {ws : List Value}, Vals vs us → Vals zs ws → Vals (gV vs zs) (g us ws)
variable {g : List Value → List Value → List Value} {gV : List V → List V → List V}
end
structure eS (N P : List Str) (sc : Scope) : Prop where
 kind : sc.kind = .function
 co : sc.isCoroutine = false
 gen : sc.isGenerator = false
 nd : N.Nodup
 pre : N.take P.length = P
 par : ∀ x ∈ P, sc.names.lookup x = some .local ∨ sc.names.lookup x = some .cell
 nofree : ∀ y ∈ sc.names, y.2 ≠ .free
theorem jS {kindOf : Str → Option NameKind} {x : Str} : ∀ {binds : List (Str × Value)} {m : Str → Option Value}, (∀ v, (x, v) ∉ binds) → bindL kindOf binds m x = m x
 | [], _, _ => rfl
 | (n, v) :: r, m, h => by
  unfold bindL
  rw [jS fun w hw => h w (List.mem_cons_of_mem _ hw)]
  split
  · have : x ≠ n := by rintro rfl; exact h v List.mem_cons_self
    simp [this]
  · rfl
theorem jT {kindOf : Str → Option NameKind} {x : Str} : ∀ {binds : List (Str × Value)} {m : Str → Option Value}, (∀ v, (x, v) ∉ binds) → bindC kindOf binds m x = m x
 | [], _, _ => rfl
 | (n, v) :: r, m, h => by
  unfold bindC
  rw [jT fun w hw => h w (List.mem_cons_of_mem _ hw)]
  split
  · rfl
  · have : x ≠ n := by rintro rfl; exact h v List.mem_cons_self
    simp [this]
theorem jU {kindOf : Str → Option NameKind} {x : Str} {v : Value} : ∀ {P : List Str} {vs : List Value} {i : Nat} {m : Str → Option Value}, P.Nodup → P[i]? = some x → vs[i]? = some v → kindOf x = some .local →
 bindL kindOf (P.zip vs) m x = some v
 | [], _, _, _, _, h, _, _ => by simp at h
 | _ :: _, [], _, _, _, _, h, _ => by simp at h
 | p :: P, w :: vs, 0, m, nd, h1, h2, hk => by
  simp at h1 h2; subst h1; subst h2
  show bindL kindOf ((p, w) :: P.zip vs) m p = _
  unfold bindL
  rw [jS fun v hv => (List.nodup_cons.mp nd).1 (List.of_mem_zip hv).1, if_pos hk]
  simp
 | p :: P, w :: vs, i + 1, m, nd, h1, h2, hk => by
  show bindL kindOf ((p, w) :: P.zip vs) m x = _
  unfold bindL
  exact jU (i := i) (List.nodup_cons.mp nd).2 (by simpa using h1) (by simpa using h2) hk
theorem jV {kindOf : Str → Option NameKind} {x : Str} {v : Value} : ∀ {P : List Str} {vs : List Value} {i : Nat} {m : Str → Option Value}, P.Nodup → P[i]? = some x → vs[i]? = some v → kindOf x ≠ some .local →
 bindC kindOf (P.zip vs) m x = some v
 | [], _, _, _, _, h, _, _ => by simp at h
 | _ :: _, [], _, _, _, _, h, _ => by simp at h
 | p :: P, w :: vs, 0, m, nd, h1, h2, hk => by
  simp at h1 h2; subst h1; subst h2
  show bindC kindOf ((p, w) :: P.zip vs) m p = _
  unfold bindC
  rw [jT fun v hv => (List.nodup_cons.mp nd).1 (List.of_mem_zip hv).1, if_neg hk]
  simp
 | p :: P, w :: vs, i + 1, m, nd, h1, h2, hk => by
  show bindC kindOf ((p, w) :: P.zip vs) m x = _
  unfold bindC
  exact jV (i := i) (List.nodup_cons.mp nd).2 (by simpa using h1) (by simpa using h2) hk
def start (N : List Str) (vs : List V) : St := vs.map some ++ List.replicate (N.length - vs.length) none
def sE (CX : CXT) (P : Program) (w : World) (K : PySem.W.Frag) (mg : Str → Option Value) (base : Heap) (N : List Str) (qual : Str) (scope : Scope) (f : Addr) (cd : Value) (A : Around) (outer : List Env) (s : Shared) (H : Hp) (E : XK) : Cx where
 prog := P
 w := w
 K := K
 mg := mg
 base := base
 A := A.deeper (envOfC qual scope s.heap.objs.size f cd)
 N := N
 s₀ := s
 H₀ := H
 env := envOfC qual scope s.heap.objs.size f cd
 outer := outer
 stack := envOfC qual scope s.heap.objs.size f cd :: outer
 ex := []
 calm := true
 fn := fun _ => true
 pn := []
 xe := fun e s' => wpAny (model P w) (A.deeper (envOfC qual scope s.heap.objs.size f cd)) (leaving (envOfC qual scope s.heap.objs.size f cd) e) (fun _ s'' => CX outer H s E e s'') (fun e' s'' => CX outer H s E e' s'') s'
theorem mI {sc : Scope} {n : Nat} {x : Str} (h : sc.names.lookup x = some .cell) : ∃ c, (cellsFrom n sc.names []).lookup x = some c := by
 have q := PySem.W.cellsFrom_some sc.names n [] (.inl h)
 exact Option.isSome_iff_exists.mp q
theorem pr {CX : CXT} {P : Program} {w : World} {K : PySem.W.Frag} {mg : Str → Option Value} {base : Heap} {N ps : List Str} {qual : Str} {scope : Scope} {f : Addr} {cd : Value} {A : Around} {outer : List Env} {s s1 : Shared} {H : Hp} {E : XK} {us : List Value} {vs : List V}
 (S : eS N ps scope) (hd : A.handled = none) (e0 : Env0 P w K mg base A outer s H) (hl : vs.length = ps.length) (r : Vals vs us)
 (x : InCallC s s.heap.objs.size (bindL (envOfC qual scope s.heap.objs.size f cd).kindOf (ps.zip us) fun _ => none) (cellsFrom (s.heap.objs.size + 1) scope.names []) (bindC (envOfC qual scope s.heap.objs.size f cd).kindOf (ps.zip us) fun _ => none) s1) :
 Inv (sE CX P w K mg base N qual scope f cd A outer s H E) [] (start N vs) H s1 := by
 have hpl : ps.length ≤ N.length := by have := congrArg List.length S.pre; rw [List.length_take] at this; omega
 obtain ⟨h1, tk, rfl, hk⟩ := x.done
 have noA : ∀ b : Addr, b ∉ (sE CX P w K mg base N qual scope f cd A outer s H E).ex := fun b z => absurd (show b ∈ ([] : List Addr) from z) (by simp)
 refine ⟨⟨e0.mod, S.kind, rfl, rfl, Nat.le_refl _, fun y z c h1 h2 => ?_, fun y hy => ?_, fun y c _ h => ?_, fun _ => hd, Around.frames_deeper e0.frames, .inr ⟨rfl, rfl⟩, fun b z => absurd z (noA b), e0.bs, e0.bsz, fun b _ _ => noA b, fun b z => absurd z (noA b), e0.funs, e0.frf⟩,
  rfl, e0.bare, Un.kept hk, ⟨_, x.toInCall.ns, fun i y v h1 h2 h3 => ?_⟩, fun y c h => ⟨_, x.cell y c h⟩, e0.hok.fresh (Nat.le_refl _), fun y c h => ?_, fun p hp => absurd (show p ∈ ([] : List (Addr × Obj)) from hp) (by simp), e0.hok.kept hk, ?_⟩
 · exact name_of_addr x.apart (PySem.mem_of_lookup h1) (PySem.mem_of_lookup h2)
 · have hy : scope.names.lookup y = some .cell ∨ scope.names.lookup y = some .free := hy
   rcases hy with hy | hy
   · exact mI hy
   · exact absurd rfl (S.nofree _ (PySem.mem_of_lookup hy))
 · exact Nat.le_of_lt (x.above y c (PySem.mem_of_lookup h))
 · have hi : i < vs.length := by
    unfold start at h2
    by_cases hi : i < vs.length
    · exact hi
    · rw [List.getElem?_append_right (by simpa using hi)] at h2
      rw [List.getElem?_replicate] at h2
      split at h2 <;> cases h2
   have ha : vs[i]? = some v := by
    unfold start at h2
    rw [List.getElem?_append_left (by simpa using hi), List.getElem?_map] at h2
    cases e : vs[i]? with
    | none => rw [e] at h2; cases h2
    | some a => rw [e] at h2; cases h2; rfl
   obtain ⟨u, hu, rv⟩ := r.get ha
   have hp : ps[i]? = some y := by
    rw [← S.pre, List.getElem?_take_of_lt (by omega)]; exact h1
   have ndP : ps.Nodup := by rw [← S.pre]; exact S.nd.sublist (List.take_sublist _ _)
   refine ⟨u, rv, ?_⟩
   rcases S.par y (List.mem_of_getElem? hp) with k | k
   · exact .inl ⟨k, jU ndP hp hu k⟩
   · obtain ⟨c, e⟩ := mI (n := s.heap.objs.size + 1) k
     refine .inr ⟨.inl k, c, e, ?_⟩
     have q := x.cell y c e
     rw [jV ndP hp hu (by show scope.names.lookup y ≠ _; rw [k]; decide)] at q
     exact q
 · exact e0.hok.fresh (Nat.le_of_lt (x.above y c (PySem.mem_of_lookup h)))
 · unfold start
   show _ = N.length
   rw [List.length_append, List.length_map, List.length_replicate]
   omega
theorem BH {CX : CXT} {P : Program} {w : World} {K : PySem.W.Frag} {mg : Str → Option Value} {base : Heap} {k : Nat} {f : Addr} {name qual : Str} {params : Arguments} {body : List Stmt} {scope : Scope} {dV kV doc pm cdv ct oc : Value} {an od : Option Addr}
 {osl : Array (Option Value)} {N ps : List Str} {sp : Sp} (lk : K.lookup f = some ⟨oc, od, .func (PySem.W.fnOf name qual params body scope dV kV doc pm an cdv ct), osl⟩) (hcd : PySem.W.codeIn K cdv qual = true) (S : eS N ps scope)
 (len : ∀ vs H Q E, sp vs H Q E → vs.length = ps.length)
 (hbody : ∀ (A : Around) (outer : List Env) (s : Shared) (H : Hp) (vs : List V) (Q : VK) (E : XK), Room k (A.deeper (envOfC qual scope s.heap.objs.size f cdv)) → sp vs H Q E →
   ∃ t, PSs (sE CX P w K mg base N qual scope f cdv A outer s H E) body t ∧ t { nx := fun _ H' => Q .non H', rt := Q } (start N vs) H) :
 FnOk P w K mg base CX (k + 1) f (PySem.W.fnOf name qual params body scope dV kV doc pm an cdv ct) ps sp := by
 refine ⟨len, fun A outer s H args us vs Q E hr e0 hb r hsp => ?_⟩
 have hl := len _ _ _ _ hsp
 have KX : K.In s.heap := e0.mod.kin.keeps fun b o e => (e0.bs b o e).1
 have lim : s.heap.NoLimit := e0.mod.nolimit.keeps fun b o e => (e0.bs b o e).1
 have hkind : ∀ y ∈ ps.zip us, scope.names.lookup y.1 = some .local ∨ (scope.names.lookup y.1 = some .cell ∧ ((cellsFrom (s.heap.objs.size + 1) scope.names []).lookup y.1).isSome = true) := fun ⟨n, v⟩ hy => by
  rcases S.par n (List.of_mem_zip hy).1 with q | q
  · exact .inl q
  · exact .inr ⟨q, PySem.W.cellsFrom_some _ _ _ (.inl q)⟩
 refine codeAny_call_function hr.depth (KX _ _ lk) rfl S.co S.gen rfl (PySem.W.codeRec_of KX hcd) (hb _ _ _ _ ?_)
 refine wpAny_newFunctionEnv_cells S.kind hkind fun env he s1 x => ?_
 subst he
 refine ⟨lim.keeps x.toInCall.keep, codeAny_func ?_⟩
 obtain ⟨t, ht, hq⟩ := hbody A outer s H vs Q E (hr.deeper _) hsp
 have I : Inv (sE CX P w K mg base N qual scope f cdv A outer s H E) [] (start N vs) H s1 := pr S hr.hd e0 hl r x
 refine wpAny_mono (ht [] s1 (start N vs) H _ I hq) (fun fl s' hs => ?_) fun e s' hs => hs
 have fin : ∀ {σ' : St} {H' : Hp} {v : V} {u : Value}, Inv (sE CX P w K mg base N qual scope f cdv A outer s H E) [] σ' H' s' → RelV v u → Q v H' → CE outer P w H s Q u s' :=
  fun {σ' H' v u} J rv q => ⟨v, H', J.os, J.bare, J.base, J.hok, rv, q⟩
 cases fl with
 | ret u =>
  obtain ⟨v, σ', H', J, rv, q⟩ := hs
  exact fin J rv q
 | next =>
  obtain ⟨σ', H', J, q⟩ := hs
  exact fin (v := V.non) (u := Value.none) J rfl q
 | brk =>
  obtain ⟨_, _, _, q⟩ := hs
  exact False.elim q
 | cont =>
  obtain ⟨_, _, _, q⟩ := hs
  exact False.elim q
section
variable {X : Cx} {x : Str} {p pos : Pos} {e : Expr} {es : List Expr} {t : TA} {id T : String} {r : List V → Hp → VK → Prop}
def tCB (r : List V → Hp → VK → Prop) (t : TA) : TE := fun σ H Q => t σ H fun vs H1 => r vs H1 Q
theorem cG (hc : CallR X (.builtin id) r) (hg : Gl X x) (hm : X.mg x = none) (hv : bootBuiltins x = some (.builtin id)) (ha : PA X (e :: es) t) (hn : x ≠ "__name__" := by decide) (hdb : (x == ("__debug__" : Str)) = false := by decide)
 (he : starEach (e :: es) X.env = (false, eval e X.env) :: starEach es X.env := by rfl) (hpl : (backTo pos (starEach es X.env)).any (·.1) = false := by rfl) : PE X (.Call (.Name x p) (e :: es) [] pos) (tCB r t) := by
 intro pins s σ H Q I h
 refine wpAny_Call_Name_kw (cW I hg hm hv ?_ hn hdb)
 exact PyProof.Rows.callWith_builtin1 (thn (ha pos pins s σ H _ I h) fun us s1 ⟨vs, H1, I1, r1, q1⟩ => hc pins s1 σ H1 vs us Q I1 r1 q1) he hpl
theorem jW (hc : CallR X (.type T) r) (hg : Gl X x) (hm : X.mg x = none) (hv : bootBuiltins x = some (.type T)) (ha : PA X (e :: es) t) (hn : x ≠ "__name__" := by decide) (hdb : (x == ("__debug__" : Str)) = false := by decide)
 (he : starEach (e :: es) X.env = (false, eval e X.env) :: starEach es X.env := by rfl) (hpl : (backTo pos (starEach es X.env)).any (·.1) = false := by rfl) : PE X (.Call (.Name x p) (e :: es) [] pos) (tCB r t) := by
 intro pins s σ H Q I h
 refine wpAny_Call_Name_kw (cW I hg hm hv ?_ hn hdb)
 exact PyProof.Rows.callWith_type1 (thn (ha pos pins s σ H _ I h) fun us s1 ⟨vs, H1, I1, r1, q1⟩ => hc pins s1 σ H1 vs us Q I1 r1 q1) he hpl
end
end L2
namespace HT
open PySem PyProof.Rows
section
open PySem.SeqAt
open PySem.AutoSeq1 (wpAny_loadPart')
open PySem.MeetsSeq PySem.MeetsSeq2 PySem.MeetsSeq3
end
section
variable {prog : Program} {w : World} {A : Around} {E : Value → Shared → Prop} {s : Shared}
theorem cat_tup {t b : Addr} {vs ws : List Value} {Q : Value → Shared → Prop} (ht : IsTup s.heap t vs.toArray) (hb : IsTup s.heap b ws.toArray) (hv : vs ≠ [])
 (h1 : ws = [] → Q (.ref t) s) (h2 : ws ≠ [] → Q (.ref s.heap.objs.size) { s with heap := s.heap.push { cls := .type "tuple", data := .seq (vs ++ ws).toArray } })
 (hsz : vs.length + ws.length ≤ sizeLine) : wpAny (model prog w) A (binaryOp .Add (.ref t) (.ref b)) Q E s := by
 obtain ⟨⟨cls, dd, data, sl⟩, ho, hc, n, hd⟩ := id ht
 obtain ⟨⟨cls2, dd2, data2, sl2⟩, ho2, hc2, n2, hd2⟩ := id hb
 simp only at hc hd hc2 hd2
 subst hc hd hc2 hd2
 have e : vs.toArray ++ ws.toArray = (vs ++ ws).toArray := by simp
 by_cases hw : ws = []
 · exact concat_meets ⟨_, ho, rfl⟩ ⟨_, ho2, rfl⟩ noFill_tuple_add seq_tuple_add PySem.F.slot_tuple_add PySem.F.entry_tuple_add (PySem.F.args_tuple_add_2 _ _)
    (tuple_addW1 t b vs.toArray ws.toArray n n2 dd dd2 sl sl2 (by simpa using hv) (by simp [hw])) ⟨ho, ho2, h1 hw⟩
 · refine concat_meets ⟨_, ho, rfl⟩ ⟨_, ho2, rfl⟩ noFill_tuple_add seq_tuple_add PySem.F.slot_tuple_add PySem.F.entry_tuple_add (PySem.F.args_tuple_add_2 _ _)
    (tuple_addW2 t b vs.toArray ws.toArray n n2 dd dd2 sl sl2 (by simpa using hv) (by simpa using hw) (by rw [List.size_toArray, List.size_toArray]; exact hsz)) ⟨ho, ho2, ?_⟩
   rw [e]
   exact h2 hw
def sIx (n d : Nat) : Option Int → Nat
 | none => d
 | some v => if v < 0 then (v + (n : Int)).toNat else min v.toNat n
theorem yg (n d : Nat) (hd : d ≤ n) (o : Option Int) : sIx n d o ≤ n := by
 cases o with
 | none => exact hd
 | some v =>
  show (if v < 0 then (v + (n : Int)).toNat else min v.toNat n) ≤ n
  by_cases hv : v < 0
  · rw [if_pos hv]; omega
  · rw [if_neg hv]; exact Nat.min_le_right _ _
theorem pv (v : Int) (n d : Nat) : (if v < 0 then max (v + (n : Int)) 0 else min v (n : Int)) = ((sIx n d (some v) : Nat) : Int) := by
 show (if v < 0 then max (v + (n : Int)) 0 else min v (n : Int)) = (((if v < 0 then (v + (n : Int)).toNat else min v.toNat n) : Nat) : Int)
 by_cases hv : v < 0
 · simp only [if_pos hv]; omega
 · simp only [if_neg hv]; omega
theorem nY (lo hi : Option Int) (n : Nat) : Builtin.Slice.sliceAdjust lo hi 1 (n : Int) = (((sIx n 0 lo : Nat) : Int), ((sIx n n hi : Nat) : Int)) := by
 have h1 : ¬ ((1 : Int) < 0) := by omega
 unfold Builtin.Slice.sliceAdjust
 simp only [h1, if_false]
 refine Prod.ext ?_ ?_
 · cases lo with
   | none => rfl
   | some v => exact pv v n 0
 · cases hi with
   | none => rfl
   | some v => exact pv v n n
theorem nZ (i j : Nat) : Builtin.Slice.slicePlaces (i : Int) (j : Int) 1 = j - i := by
 unfold Builtin.Slice.slicePlaces
 have h1 : (1 : Int) > 0 := by omega
 simp only [h1, if_true, Int.ediv_one]
 split <;> omega
theorem ic {v : Value} {o : Option Int} {Q : Option Int → Shared → Prop} (p : IsPart v o) (h : Q o s) : wpAny (model prog w) A (Builtin.Slice.slicePartIndex v) Q E s := by
 cases p with
 | none => exact slicePart_none h
 | int i t => exact slicePart_int h
theorem sliceApplied_gen {sl : Addr} {vl vu : Value} {lo hi : Option Int} {n : Nat} {Q : Int × Int × Nat → Shared → Prop} (hs : s.heap.IsSliceOf sl vl vu .none) (pl : IsPart vl lo) (pu : IsPart vu hi)
 (h : Q (((sIx n 0 lo : Nat) : Int), 1, sIx n n hi - sIx n 0 lo) s) : wpAny (model prog w) A (Builtin.Slice.sliceApplied (.ref sl) (pure (n : Int))) Q E s := by
 obtain ⟨os, hos, hcs, hds⟩ := id hs
 unfold Builtin.Slice.sliceApplied Builtin.Slice.sliceFields
 refine wpAny_bind (wpAny_bind (wpAny_field hos hds (x := vl) rfl (wpAny_bind (wpAny_field hos hds (x := vu) rfl (wpAny_bind (wpAny_field hos hds (x := .none) rfl (wpAny_pure ?_)))))))
 refine wpAny_bind (slicePart_none ?_)
 show wpAny _ _ (if ((1 : Int) == 0) = true then _ else _) _ _ s
 rw [if_neg (by decide)]
 refine wpAny_bind (ic pl (wpAny_bind (ic pu (wpAny_bind (wpAny_pure ?_)))))
 show wpAny _ _ (match Builtin.Slice.sliceAdjust lo hi 1 (n : Int) with | (lo, hi) => pure (lo, (1 : Int), Builtin.Slice.slicePlaces lo hi 1)) _ _ s
 rw [nY lo hi n]
 show wpAny _ _ (pure (((sIx n 0 lo : Nat) : Int), (1 : Int), Builtin.Slice.slicePlaces ((sIx n 0 lo : Nat) : Int) ((sIx n n hi : Nat) : Int) 1)) _ _ s
 rw [nZ]
 exact wpAny_pure h
theorem sF (xs : Array Value) (i k : Nat) : ((List.range k).filterMap fun (m : Nat) => xs[((i : Int) + (m : Int) * 1).toNat]?).toArray = ((xs.toList.drop i).take k).toArray := by
 have e : (fun (m : Nat) => xs[((i : Int) + (m : Int) * 1).toNat]?) = fun m => xs[i + m]? := by
  funext m
  have : ((i : Int) + (m : Int) * 1).toNat = i + m := by omega
  rw [this]
 rw [e]
 have := pick_run xs i k
 rw [List.filterMap_map] at this
 have e2 : ((fun x => xs[x]?) ∘ fun x => i + x) = fun m => xs[i + m]? := rfl
 rw [e2] at this
 rw [this]
theorem getItem_tuple_cut {t sl : Addr} {items : Array Value} {vl vu : Value} {lo hi : Option Int} {Q : Value → Shared → Prop} (ht : IsTup s.heap t items) (hs : s.heap.IsSliceOf sl vl vu .none) (pl : IsPart vl lo) (pu : IsPart vu hi)
 (hw : ¬ (sIx items.size 0 lo = 0 ∧ sIx items.size items.size hi = items.size))
 (h : Q (.ref s.heap.objs.size) { s with heap := s.heap.push { cls := .type "tuple", data := .seq ((items.toList.drop (sIx items.size 0 lo)).take (sIx items.size items.size hi - sIx items.size 0 lo)).toArray } })
 (hsz : items.size ≤ sizeLine) : wpAny (model prog w) A (getItem (.ref t) (.ref sl)) Q E s := by
 have htake : sizeOk (.seq ((items.toList.drop (sIx items.size 0 lo)).take (sIx items.size items.size hi - sIx items.size 0 lo)).toArray) := by
  show ((items.toList.drop (sIx items.size 0 lo)).take (sIx items.size items.size hi - sIx items.size 0 lo)).toArray.size ≤ sizeLine
  rw [List.size_toArray, List.length_take, List.length_drop, Array.length_toList]
  omega
 have hj : sIx items.size items.size hi ≤ items.size := yg _ _ (Nat.le_refl _) hi
 obtain ⟨os, hos, hcs, hds⟩ := id hs
 have hTs : s.TypeIs (.ref sl) "slice" := ⟨os, hos, hcs⟩
 unfold getItem
 try with_reducible refine wpAny_holding ?_
 first | refine wpAny_bind (wpAny_pure ?_) | skip
 refine wpAny_bind (wpAny_sequenceKey ht.typeIs (by decide) ?_)
 refine wpAny_bind (wpAny_callSpecial?_slot (name := Str.ofString "__getitem__") ht.typeIs PyProof.Rows.slot_tuple_getitem
  (wpAny_call_entry PyProof.Rows.slot_tuple_getitem ht.typeIs entry_tuple_getitem ?_ (args_tuple_getitem _ _)))
 show wpAny _ _ (Builtin.Tuple.tupleItemsOf (.ref t) >>= _) _ _ s
 refine wpAny_bind (tupleItemsOf_ ht ?_)
 refine wpAny_bind (wpAny_typeOf hTs ?_)
 rw [if_pos (by decide)]
 refine wpAny_bind (sliceApplied_gen hs pl pu ?_)
 have hno : ¬ ((((sIx items.size 0 lo : Nat) : Int) == 0 && (1 : Int) == 1 && (sIx items.size items.size hi - sIx items.size 0 lo) == items.size) = true) := by
  intro q
  rw [Bool.and_eq_true, Bool.and_eq_true] at q
  have q1 : ((sIx items.size 0 lo : Nat) : Int) = 0 := eq_of_beq q.1.1
  have q2 : sIx items.size items.size hi - sIx items.size 0 lo = items.size := eq_of_beq q.2
  exact hw ⟨by omega, by omega⟩
 show wpAny _ _ (if (((sIx items.size 0 lo : Nat) : Int) == 0 && (1 : Int) == 1 && (sIx items.size items.size hi - sIx items.size 0 lo) == items.size) = true then _ else _) _ _ s
 rw [if_neg hno, sF]
 first
  | exact wpAny_bind (m := Builtin.Tuple.tupleExact _) (wpAny_newObj_type (wpAny_pure ⟨_, rfl, wpAny_pure h⟩) htake)
  | exact wpAny_bind (m := Builtin.Tuple.tupleExact _) (wpAny_newObj_type (wpAny_bind (wpAny_pure (wpAny_pure ⟨_, rfl, wpAny_pure h⟩))) htake)
  | exact wpAny_bind (wpAny_bind (m := Builtin.Tuple.tupleExact _) (wpAny_newObj_type (wpAny_pure (wpAny_pure ⟨_, rfl, wpAny_pure h⟩)) htake))
  | exact wpAny_bind (wpAny_bind (m := Builtin.Tuple.tupleExact _) (wpAny_newObj_type (wpAny_pure ⟨_, rfl, wpAny_pure h⟩) htake))
end
end HT
namespace L2
open PySem PySem.Spec PyProof.Rows
abbrev TO := St → Hp → (Option Int → Hp → Prop) → Prop
def PO (X : Cx) (e : Option Expr) (t : TO) : Prop :=
 ∀ (pins : List (Addr × Obj)) (s : Shared) (σ : St) (H : Hp) (Q : Option Int → Hp → Prop), Inv X pins σ H s → t σ H Q →
  wpAny (model X.prog X.w) X.A (evalPart e X.env) (fun u s' => ∃ o H', Inv X pins σ H' s' ∧ IsPart u o ∧ Q o H') X.xe s
def vC : TO := fun _ H Q => Q none H
def BI (t : TE) : TO := fun σ H Q => t σ H fun x H1 => ∃ i, x = .int i ∧ Q (some i) H1
section
variable {X : Cx} {e : Expr} {te : TE} {lo hi : Option Expr} {tl th : TO} {pos p2 : Pos}
theorem vD : PO X none vC := by
 intro pins s σ H Q I h
 rw [evalPart_none]
 exact wpAny_pure ⟨none, H, I, .none, h⟩
theorem vE (h : PE X e te) : PO X (some e) (BI te) := by
 intro pins s σ H Q I hw
 rw [evalPart_some]
 refine thn (h pins s σ H _ I hw) fun u s1 ⟨x, H1, I1, r1, q1⟩ => ?_
 obtain ⟨i, rfl, q⟩ := q1
 obtain ⟨t, rfl⟩ := r1
 exact ⟨some i, H1, I1, .int i t, q⟩
def SlR (X : Cx) (r : V → Option Int → Option Int → Hp → VK → Prop) : Prop :=
 ∀ (pins : List (Addr × Obj)) (s : Shared) (σ : St) (H : Hp) (x : V) (v vl vu : Value) (lo hi : Option Int) (sl : Addr) (Q : VK), Inv X pins σ H s → RelV x v → s.heap.IsSliceOf sl vl vu .none → IsPart vl lo → IsPart vu hi → r x lo hi H Q →
  ∃ T id, typeLookup (.type T) "__getitem__" = pure (some (.builtin id)) ∧ s.TypeIs v T ∧ wpAny (model X.prog X.w) X.A (getItem v (.ref sl)) (EP X pins σ Q) X.xe s
theorem SlR.or {r r' : V → Option Int → Option Int → Hp → VK → Prop} (h : SlR X r) (h' : SlR X r') : SlR X (fun x lo hi H Q => r x lo hi H Q ∨ r' x lo hi H Q) := by
 intro pins s σ H x v vl vu lo hi sl Q I rx hs pl pu q
 rcases q with q | q
 · exact h pins s σ H x v vl vu lo hi sl Q I rx hs pl pu q
 · exact h' pins s σ H x v vl vu lo hi sl Q I rx hs pl pu q
def tSl (r : V → Option Int → Option Int → Hp → VK → Prop) (te : TE) (tl th : TO) : TE := fun σ H Q => te σ H fun x H1 => tl σ H1 fun l H2 => th σ H2 fun u H3 => r x l u H3 Q
theorem mJ {r : V → Option Int → Option Int → Hp → VK → Prop} (hr : SlR X r) (he : PE X e te) (hl : PO X lo tl) (hu : PO X hi th) : PE X (.Subscript e (.Slice lo hi none p2) pos) (tSl r te tl th) := by
 intro pins s σ H Q I h
 refine Subscript_ (thn (he pins s σ H _ I h) fun v s1 ⟨x, H1, I1, r1, q1⟩ => ?_)
 refine wpAny_Slice (thn (hl pins s1 σ H1 _ I1 q1) fun vl s2 ⟨l, H2, I2, pl, q2⟩ => thn (hu pins s2 σ H2 _ I2 q2) fun vu s3 ⟨u, H3, I3, pu, q3⟩ => ?_)
 rw [evalPart_none]
 refine wpAny_pure ?_
 have I4 : Inv X pins σ H3 { s3 with heap := s3.heap.push { cls := .type "slice", data := .fields #[vl, vu, .none] } } := I3.kept (t' := s3.toks) fun b ob q => Heap.get?_push_of_some _ q
 obtain ⟨T, id, hT, ht, hg⟩ := hr pins { s3 with heap := s3.heap.push { cls := .type "slice", data := .fields #[vl, vu, .none] } } σ H3 x v vl vu l u s3.heap.objs.size Q I4 r1 (Heap.IsSliceOf.new ..) pl pu q3
 show wpAny (model X.prog X.w) X.A (subscriptTail e (.Slice lo hi none p2) v (.ref s3.heap.objs.size)) (EP X pins σ Q) X.xe { s3 with heap := s3.heap.push { cls := .type "slice", data := .fields #[vl, vu, .none] } }
 exact tail_any (ops := [.ref s3.heap.objs.size, v]) ht hT hg (by with_unfolding_all rfl)
def sG (xs : List V) (lo hi : Option Int) : List V := (xs.drop (HT.sIx xs.length 0 lo)).take (HT.sIx xs.length xs.length hi - HT.sIx xs.length 0 lo)
theorem gh (xs : List V) (lo hi : Option Int) : (sG xs lo hi).length ≤ xs.length := by
 unfold sG
 rw [List.length_take, List.length_drop]
 omega
def DU (K : PySem.W.Frag) : V → Option Int → Option Int → Hp → VK → Prop := fun x lo hi H Q => ∃ a xs, x = .ref a ∧ SqT K H a xs ∧
 ¬ (HT.sIx xs.length 0 lo = 0 ∧ HT.sIx xs.length xs.length hi = xs.length) ∧ ∀ p, H p = none → Q (.ref p) (upd H p (.tup (sG xs lo hi)))
theorem sl_tup : SlR X (DU X.K) := by
 intro pins s σ H x v vl vu lo hi sl Q I rx hs pl pu h
 obtain ⟨a, xs, rfl, hx, hw, q⟩ := h
 cases rx
 obtain ⟨its, r, ht, hz⟩ := I.tuple hx
 have hlen : its.toArray.size = xs.length := by rw [List.size_toArray]; exact r.length.symm
 refine ⟨"tuple", _, PyProof.Rows.slot_tuple_getitem.lookup, ht.typeIs, ?_⟩
 refine HT.getItem_tuple_cut ht hs pl pu (by rw [hlen]; exact hw) ?_ (by rw [hlen]; exact hz)
 rw [hlen]
 refine ⟨.ref s.heap.objs.size, _, I.laid (t' := s.toks) (o := .tup (sG xs lo hi)) (fun b ob q => Heap.get?_push_of_some _ q) (Nat.le_refl _) ?_, rfl, q _ (I.hok.fresh (Nat.le_refl _))⟩
 exact ⟨Nat.le_trans (gh xs lo hi) hz, _, (r.drop (HT.sIx xs.length 0 lo)).take (HT.sIx xs.length xs.length hi - HT.sIx xs.length 0 lo), IsTup.new _ _⟩
def yh (K : PySem.W.Frag) : R2 := fun x y H Q => ∃ a b xs ys, x = .ref a ∧ y = .ref b ∧ SqT K H a xs ∧ SqT K H b ys ∧ xs ≠ [] ∧ xs.length + ys.length ≤ sizeLine ∧
 (ys = [] → Q (.ref a) H) ∧ (ys ≠ [] → ∀ p, H p = none → Q (.ref p) (upd H p (.tup (xs ++ ys))))
theorem Vals.nil_iff {xs : List V} {us : List Value} (r : Vals xs us) : us = [] ↔ xs = [] := by
 cases r with
 | nil => simp
 | cons _ _ => simp
theorem op_catT : OpR X (binaryOp .Add) (yh X.K) := by
 intro pins s σ H x y v u Q I rx ry h
 obtain ⟨a, b, xs, ys, rfl, rfl, ha, hb, hx, hz, q1, q2⟩ := h
 cases rx
 cases ry
 obtain ⟨its, r1, p1, _⟩ := I.tuple ha
 obtain ⟨its2, r2, p2, _⟩ := I.tuple hb
 refine HT.cat_tup p1 p2 (fun z => hx (r1.nil_iff.mp z)) (fun z => ⟨.ref a, H, I, rfl, q1 (r2.nil_iff.mp z)⟩) (fun z => ?_) (by rw [← r1.length, ← r2.length]; exact hz)
 refine ⟨.ref s.heap.objs.size, _, I.laid (t' := s.toks) (o := .tup (xs ++ ys)) (fun b ob q => Heap.get?_push_of_some _ q) (Nat.le_refl _) ?_, rfl, q2 (fun w => z (r2.nil_iff.mpr w)) _ (I.hok.fresh (Nat.le_refl _))⟩
 exact ⟨by rw [List.length_append]; exact hz, _, r1.append r2, IsTup.new _ _⟩
end
def ixN (n : Nat) (i : Int) : Option Nat := if 0 ≤ i then (if i < n then some i.toNat else none) else if -(n : Int) ≤ i then some (i + n).toNat else none
def atI {α : Type} (xs : List α) (i : Int) : Option α := (ixN xs.length i).bind fun j => xs[j]?
theorem vF {n : Nat} {i : Int} {j : Nat} (h : ixN n i = some j) : seqIndex? i n = some j ∧ j < n ∧ -(n : Int) ≤ i ∧ i < n := by
 unfold ixN at h
 by_cases h0 : 0 ≤ i
 · rw [if_pos h0] at h
   by_cases h1 : i < n
   · rw [if_pos h1] at h
     have e : i.toNat = j := Option.some.inj h
     exact ⟨by rw [seqIndex_of h0 h1, e], by omega, by omega, h1⟩
   · rw [if_neg h1] at h; cases h
 · rw [if_neg h0] at h
   by_cases h1 : -(n : Int) ≤ i
   · rw [if_pos h1] at h
     have e : (i + n).toNat = j := Option.some.inj h
     exact ⟨by rw [seqIndex_neg (by omega) h1, e], by omega, h1, by omega⟩
   · rw [if_neg h1] at h; cases h
theorem lG {α : Type} {xs : List α} {i : Int} {v : α} (h : atI xs i = some v) : ∃ j, seqIndex? i xs.length = some j ∧ xs[j]? = some v ∧ j < xs.length ∧ -(xs.length : Int) ≤ i ∧ i < xs.length := by
 unfold atI at h
 cases e : ixN xs.length i with
 | none => rw [e] at h; cases h
 | some j =>
  rw [e] at h
  obtain ⟨h1, h2, h3, h4⟩ := vF e
  exact ⟨j, h1, h, h2, h3, h4⟩
def pw (b : Expr) : Prop := ∀ o i, subscripted b false o i = operate [o, i] (getItem o i)
def IxR (X : Cx) (r : R2) : Prop :=
 ∀ (value slice : Expr) (pins : List (Addr × Obj)) (s : Shared) (σ : St) (H : Hp) (x y : V) (v u : Value) (Q : VK), Inv X pins σ H s → RelV x v → RelV y u → r x y H Q →
  subscripted slice false v u = operate [v, u] (getItem v u) → wpAny (model X.prog X.w) X.A (subscriptTail value slice v u) (EP X pins σ Q) X.xe s
def MtR (X : Cx) (id : String) (r : V → List V → Hp → VK → Prop) : Prop :=
 ∀ (pins : List (Addr × Obj)) (s : Shared) (σ : St) (H : Hp) (x : V) (xs : List V) (v : Value) (us : List Value) (Q : VK), Inv X pins σ H s → RelV x v → Vals xs us → r x xs H Q →
  wpAny (model X.prog X.w) X.A (call (.builtin id) (v :: us)) (EP X pins σ Q) X.xe s
section
variable {X : Cx} {a b : Expr} {ta tb : TE} {pos : Pos}
theorem IxR.or {r r' : R2} (h : IxR X r) (h' : IxR X r') : IxR X (fun x y H Q => r x y H Q ∨ r' x y H Q) := by
 intro value slice pins s σ H x y v u Q I rx ry q hs
 rcases q with q | q
 · exact h value slice pins s σ H x y v u Q I rx ry q hs
 · exact h' value slice pins s σ H x y v u Q I rx ry q hs
theorem MtR.or {id : String} {r r' : V → List V → Hp → VK → Prop} (h : MtR X id r) (h' : MtR X id r') : MtR X id (fun x xs H Q => r x xs H Q ∨ r' x xs H Q) := by
 intro pins s σ H x xs v us Q I rx rs q
 rcases q with q | q
 · exact h pins s σ H x xs v us Q I rx rs q
 · exact h' pins s σ H x xs v us Q I rx rs q
theorem BJ {r : R2} (hr : IxR X r) (ha : PE X a ta) (hb : PE X b tb) (hs : pw b) : PE X (.Subscript a b pos) (tOp r ta tb) := by
 intro pins s σ H Q I h
 exact Subscript_ (By ha hb I h fun v u s2 x y H2 I2 rx ry q => hr a b pins s2 σ H2 x y v u Q I2 rx ry q (hs _ _))
def Dc (K : PySem.W.Frag) : R2 := fun x y H Q => ∃ p xs i v, x = .ref p ∧ y = .int i ∧ SqL K H p xs ∧ atI xs i = some v ∧ Q v H
def Dd (K : PySem.W.Frag) : R2 := fun x y H Q => ∃ p xs i v, x = .ref p ∧ y = .int i ∧ SqT K H p xs ∧ atI xs i = some v ∧ Q v H
def De : R2 := fun x y H Q => ∃ z i c, x = .str z ∧ y = .int i ∧ z.length ≤ sizeLine ∧ atI z.cps.toList i = some c ∧ Q (.str ⟨#[c]⟩) H
theorem ix_list : IxR X (Dc X.K) := by
 intro value slice pins s σ H x y v u Q I rx ry h hs
 obtain ⟨p, xs, i, z, rfl, rfl, hq, he, q⟩ := h
 cases rx
 obtain ⟨t, rfl⟩ := ry
 obtain ⟨its, r, pl, hz⟩ := I.list hq
 obtain ⟨j, h1, h2, h3, h4, h5⟩ := lG he
 obtain ⟨w, ew, rw'⟩ := r.get h2
 have hl := r.length
 have hn := mG
 have fin : EP X pins σ Q w s := ⟨z, H, I, rw', q⟩
 by_cases h0 : 0 ≤ i
 · have hj : i.toNat = j := by
    rw [seqIndex_of h0 h5] at h1
    exact Option.some.inj h1
   exact item_listR pl.isList h0 (by omega) (by rw [hj]; simpa using ew) fin hs
 · have hj : (i + (its.toArray.size : Int)).toNat = j := by
    rw [seqIndex_neg (by omega) h4] at h1
    rw [List.size_toArray, ← hl]
    exact Option.some.inj h1
   exact subscriptTail_builtinR (x := w) pl.isList.typeIs slot_list_getitem.lookup
    (wpAny_getItem_list_neg (Q := fun r s' => r = w ∧ EP X pins σ Q r s') pl.isList (by omega) (by rw [List.size_toArray] <;> omega) (by omega) (by rw [hj]; simpa using ew) ⟨rfl, fin⟩) hs
theorem ix_tup : IxR X (Dd X.K) := by
 intro value slice pins s σ H x y v u Q I rx ry h hs
 obtain ⟨p, xs, i, z, rfl, rfl, hq, he, q⟩ := h
 cases rx
 obtain ⟨t, rfl⟩ := ry
 obtain ⟨its, r, pl, hz⟩ := I.tuple hq
 obtain ⟨j, h1, h2, h3, h4, h5⟩ := lG he
 obtain ⟨w, ew, rw'⟩ := r.get h2
 have hl := r.length
 have hn := mG
 have fin : EP X pins σ Q w s := ⟨z, H, I, rw', q⟩
 exact subscriptTail_builtinR (x := w) pl.typeIs slot_tuple_getitem.lookup
  (getItem_tuple (j := j) (Q := fun r s' => r = w ∧ EP X pins σ Q r s') pl (by omega) (by omega) (by rw [List.size_toArray, ← hl]; exact h1) (by simpa using ew) ⟨rfl, fin⟩) hs
theorem yi : IxR X De := by
 intro value slice pins s σ H x y v u Q I rx ry h hs
 obtain ⟨z, i, c, rfl, rfl, hz, he, q⟩ := h
 obtain ⟨t, rfl⟩ := rx
 obtain ⟨t', rfl⟩ := ry
 obtain ⟨j, h1, h2, h3, h4, h5⟩ := lG he
 have hl : z.cps.toList.length = z.length := by simp [Str.length]
 rw [hl] at h1 h4 h5
 have hn := mG
 exact tail_any (typeIs_str s z t) slot_str_getitem.lookup (getItem_str (c := c) (by
  have e1 : decide (i < -(2 ^ 63 : Int)) = false := decide_eq_false (by omega)
  have e2 : decide (i ≥ 2 ^ 63) = false := decide_eq_false (by omega)
  rw [e1, e2, Bool.or_false]) (by rw [h1]; simpa using h2) ⟨.str ⟨#[c]⟩, H, I.tok _, ⟨_, rfl⟩, q⟩) hs
def rIx (K : PySem.W.Frag) : R2 := fun x y H Q => Dc K x y H Q ∨ Dd K x y H Q ∨ De x y H Q
theorem yj : IxR X (rIx X.K) := ix_list.or (ix_tup.or yi)
theorem Inv.lst {pins : List (Addr × Obj)} {σ : St} {H : Hp} {s : Shared} {p : Addr} {xs : List V} (I : Inv X pins σ H s) (h : H p = some (.lst xs)) :
 ∃ (its : List Value) (n : Nat), Vals xs its ∧ s.heap.get? p = some { cls := .type "list", data := .seq its.toArray n } ∧ xs.length ≤ sizeLine := by
 obtain ⟨z, its, n, r, e⟩ := I.hok p _ h
 exact ⟨its, n, r, e, z⟩
theorem jX (lo hi : Option Int) (n : Nat) : (sliceBounds lo hi none n).1 = ((HT.sIx n 0 lo : Nat) : Int) ∧ (sliceBounds lo hi none n).2.1 = ((HT.sIx n n hi : Nat) : Int) ∧ (sliceBounds lo hi none n).2.2 = 1 := by
 refine ⟨?_, ?_, rfl⟩
 · cases lo with
   | none => simp [sliceBounds, HT.sIx]
   | some i =>
    simp only [sliceBounds, HT.sIx, Option.getD_none, show (1 : Int) > 0 by decide, if_true]
    by_cases h : i < 0
    · simp only [h, if_true] <;> omega
    · simp only [h, if_false] <;> omega
 · cases hi with
   | none => simp [sliceBounds, HT.sIx]
   | some i =>
    simp only [sliceBounds, HT.sIx, Option.getD_none, show (1 : Int) > 0 by decide, if_true]
    by_cases h : i < 0
    · simp only [h, if_true] <;> omega
    · simp only [h, if_false] <;> omega
theorem iX (its : List Value) (lo hi : Option Int) : slicePick its.toArray lo hi none = ((its.drop (HT.sIx its.length 0 lo)).take (HT.sIx its.length its.length hi - HT.sIx its.length 0 lo)).toArray := by
 obtain ⟨h1, h2, h3⟩ := jX lo hi its.toArray.size
 unfold slicePick
 rw [h1, h2, h3]
 simp only [sliceRange_one, pick_run, List.size_toArray] <;> rfl
def DV (K : PySem.W.Frag) : V → Option Int → Option Int → Hp → VK → Prop := fun x lo hi H Q => ∃ a xs, x = .ref a ∧ SqL K H a xs ∧ ∀ p, H p = none → Q (.ref p) (upd H p (.lst (sG xs lo hi)))
theorem pA : SlR X (DV X.K) := by
 intro pins s σ H x v vl vu lo hi sl Q I rx hs pl pu h
 obtain ⟨a, xs, rfl, hx, q⟩ := h
 cases rx
 obtain ⟨its, r, ht, hz⟩ := I.list hx
 have hlen := r.length
 refine ⟨"list", _, slot_list_getitem.lookup, ht.isList.typeIs, ?_⟩
 refine wpAny_getItem_list_slice ht.isList hs pl pu .none (by simp) ?_ (by rw [List.size_toArray] <;> omega)
 rw [iX, ← hlen]
 refine ⟨.ref s.heap.objs.size, _, I.laid (t' := s.toks) (o := .lst (sG xs lo hi)) (fun b ob q => Heap.get?_push_of_some _ q) (Nat.le_refl _) ?_, rfl, q _ (I.hok.fresh (Nat.le_refl _))⟩
 exact ⟨Nat.le_trans (gh xs lo hi) hz, _, 0, (r.drop (HT.sIx xs.length 0 lo)).take (HT.sIx xs.length xs.length hi - HT.sIx xs.length 0 lo), Heap.get?_push_size _ rfl⟩
def cU : V → Bool
 | .non => true
 | .bl _ => true
 | .int _ => true
 | .str _ => true
 | _ => false
def eqV : V → V → Bool
 | .non, .non => true
 | .bl a, .bl b => a == b
 | .bl a, .int b => (if a then 1 else 0) == b
 | .int a, .bl b => a == (if b then 1 else 0)
 | .int a, .int b => a == b
 | .str a, .str b => a == b
 | _, _ => false
theorem yk {A : Around} {s : Shared} {y x : V} {u v : Value} (ry : RelV y u) (rx : RelV x v) (fy : cU y = true) (fx : cU x = true) : SeqAt.EqAt A s u v (eqV y x) := by
 cases y with
 | non =>
  cases ry
  cases x with
  | non => cases rx; exact SeqAt.EqAt.same _
  | bl b => cases rx; exact SeqAt.EqAt.none_bool b
  | int b => obtain ⟨t, rfl⟩ := rx; exact SeqAt.EqAt.none_int b t
  | str b => obtain ⟨t, rfl⟩ := rx; exact SeqAt.EqAt.none_str b t
  | _ => exact absurd (show false = true from fx) Bool.false_ne_true
 | bl a =>
  cases ry
  cases x with
  | non => cases rx; exact SeqAt.EqAt.bool_none a
  | bl b => cases rx; exact SeqAt.EqAt.bool_bool a b
  | int b => obtain ⟨t, rfl⟩ := rx; exact SeqAt.EqAt.bool_int a b t
  | str b => obtain ⟨t, rfl⟩ := rx; exact SeqAt.EqAt.bool_str a b t
  | _ => exact absurd (show false = true from fx) Bool.false_ne_true
 | int a =>
  obtain ⟨t', rfl⟩ := ry
  cases x with
  | non => cases rx; exact SeqAt.EqAt.int_none a t'
  | bl b => cases rx; exact SeqAt.EqAt.int_bool a t' b
  | int b => obtain ⟨t, rfl⟩ := rx; exact SeqAt.EqAt.int_int a t' b t
  | str b => obtain ⟨t, rfl⟩ := rx; exact SeqAt.EqAt.int_str a t' b t
  | _ => exact absurd (show false = true from fx) Bool.false_ne_true
 | str a =>
  obtain ⟨t', rfl⟩ := ry
  cases x with
  | non => cases rx; exact SeqAt.EqAt.str_none a t'
  | bl b => cases rx; exact SeqAt.EqAt.str_bool a t' b
  | int b => obtain ⟨t, rfl⟩ := rx; exact SeqAt.EqAt.str_int a t' b t
  | str b => obtain ⟨t, rfl⟩ := rx; exact SeqAt.EqAt.str_str a t' b t
  | _ => exact absurd (show false = true from fx) Bool.false_ne_true
 | _ => exact absurd (show false = true from fy) Bool.false_ne_true
def eqU (x : V) (u : Value) : Bool := match u with
 | .none => eqV .non x
 | .bool b => eqV (.bl b) x
 | .int i _ => eqV (.int i) x
 | .str z _ => eqV (.str z) x
 | _ => false
theorem mK {x y : V} {u : Value} (r : RelV y u) (f : cU y = true) : eqU x u = eqV y x := by
 cases y with
 | non => cases r; rfl
 | bl b => cases r; rfl
 | int i => obtain ⟨t, rfl⟩ := r; rfl
 | str z => obtain ⟨t, rfl⟩ := r; rfl
 | _ => exact absurd (show false = true from f) Bool.false_ne_true
theorem gk {x : V} : ∀ {xs : List V} {us : List Value}, Vals xs us → xs.all cU = true → us.any (eqU x) = xs.any fun y => eqV y x
 | _, _, .nil, _ => rfl
 | y :: xs, u :: us, .cons r t, f => by
  rw [List.all_cons, Bool.and_eq_true] at f
  rw [List.any_cons, List.any_cons, mK r f.1, gk t f.2]
theorem cH {A : Around} {s : Shared} {x : V} {v : Value} (rx : RelV x v) (fx : cU x = true) : ∀ {xs : List V} {us : List Value}, Vals xs us → xs.all cU = true → ∀ u ∈ us, SeqAt.EqAt A s u v (eqU x u)
 | _, _, .nil, _ => fun u hu => by cases hu
 | y :: xs, u :: us, .cons r t, f => fun u' hu => by
  rw [List.all_cons, Bool.and_eq_true] at f
  rcases List.mem_cons.mp hu with rfl | hu
  · rw [mK r f.1]; exact yk r rx f.1 fx
  · exact cH rx fx t f.2 u' hu
def inV (x : V) (xs : List V) : Bool := xs.any fun y => eqV y x
def rIn (K : PySem.W.Frag) (neg : Bool) : R2 := fun x y H Q => ∃ p xs, y = .ref p ∧ (SqL K H p xs ∨ SqT K H p xs) ∧ cU x = true ∧ xs.all cU = true ∧ Q (.bl (if neg then !inV x xs else inV x xs)) H
theorem pB : OpR X (compareOp .In) (rIn X.K false) := by
 intro pins s σ H x y v u Q I rx ry h
 obtain ⟨p, xs, rfl, hq, fx, fs, q⟩ := h
 cases ry
 rcases hq with hq | hq
 · obtain ⟨its, r, pl, hz⟩ := I.list hq
   refine SeqAt.in_listAt (eqU x) pl.isList (fun w hw => cH rx fx r fs w (by simpa using hw)) ⟨.bl _, H, I, rfl, ?_⟩
   rw [show its.toArray.any (eqU x) = its.any (eqU x) by simp, gk r fs]
   exact q
 · obtain ⟨its, r, pl, hz⟩ := I.tuple hq
   refine SeqAt.in_tupleAt (eqU x) pl (fun w hw => cH rx fx r fs w (by simpa using hw)) ⟨.bl _, H, I, rfl, ?_⟩
   rw [show its.toArray.any (eqU x) = its.any (eqU x) by simp, gk r fs]
   exact q
theorem jY : OpR X (compareOp .NotIn) (rIn X.K true) := by
 intro pins s σ H x y v u Q I rx ry h
 obtain ⟨p, xs, rfl, hq, fx, fs, q⟩ := h
 cases ry
 rcases hq with hq | hq
 · obtain ⟨its, r, pl, hz⟩ := I.list hq
   refine SeqAt.notIn_listAt (eqU x) pl.isList (fun w hw => cH rx fx r fs w (by simpa using hw)) ⟨.bl _, H, I, rfl, ?_⟩
   rw [show its.toArray.any (eqU x) = its.any (eqU x) by simp, gk r fs]
   exact q
 · obtain ⟨its, r, pl, hz⟩ := I.tuple hq
   refine SeqAt.notIn_tupleAt (eqU x) pl (fun w hw => cH rx fx r fs w (by simpa using hw)) ⟨.bl _, H, I, rfl, ?_⟩
   rw [show its.toArray.any (eqU x) = its.any (eqU x) by simp, gk r fs]
   exact q
theorem op_notIn_str : OpR X (compareOp .NotIn) (fun x y H Q => ∃ i j, x = .str i ∧ y = .str j ∧ Q (.bl (!(!(Builtin.Str.occurrences j i 0 j.length 1).isEmpty))) H) := by
 intro pins s σ H x y v u Q I rx ry h
 obtain ⟨i, j, rfl, rfl, q⟩ := h
 obtain ⟨t, rfl⟩ := rx
 obtain ⟨t', rfl⟩ := ry
 exact notIn_str ⟨.bl _, H, I, rfl, q⟩
theorem CallR.or {f : Value} {r r' : List V → Hp → VK → Prop} (h : CallR X f r) (h' : CallR X f r') : CallR X f (fun xs H Q => r xs H Q ∨ r' xs H Q) := by
 intro pins s σ H xs us Q I rs q
 rcases q with q | q
 · exact h pins s σ H xs us Q I rs q
 · exact h' pins s σ H xs us Q I rs q
theorem jZ : CallR X (.type "list") (fun xs H Q => ∃ p ys, xs = [.ref p] ∧ (SqL X.K H p ys ∨ SqT X.K H p ys) ∧ ∀ l, H l = none → Q (.ref l) (upd H l (.lst ys))) := by
 intro pins s σ H xs us Q I r h
 obtain ⟨p, ys, rfl, hq, q⟩ := h
 obtain ⟨u, rfl, rx⟩ := b5 r
 cases rx
 have fin : ∀ (its : List Value), Vals ys its → ys.length ≤ sizeLine → ∀ (h' : Heap) (c' : Nat), (∀ b o', s.heap.get? b = some o' → h'.get? b = some o') →
  h'.get? s.heap.objs.size = some { cls := .type "list", dict := none, data := .seq its.toArray c', slots := #[] } → EP X pins σ Q (.ref s.heap.objs.size) { s with heap := h' } := fun its r' hz h' c' kp e =>
  ⟨.ref s.heap.objs.size, _, I.laid (t' := s.toks) kp (Nat.le_refl _) (show ObjOk X.prog X.w _ h' _ (.lst ys) from ⟨hz, its, c', r', e⟩), rfl, q _ (I.hok.fresh (Nat.le_refl _))⟩
 rcases hq with hq | hq
 · obtain ⟨its, r', pl, hz⟩ := I.list hq
   have hlen := r'.length
   obtain ⟨o, ho, hc, n, hd⟩ := pl.isList
   exact call_list_seq p (.inl rfl) ho hc hd (fun h' c' kp e => fin its r' hz h' c' kp e) (by simp only [List.size_toArray] <;> omega)
 · obtain ⟨its, r', pl, hz⟩ := I.tuple hq
   have hlen := r'.length
   obtain ⟨o, ho, hc, n, hd⟩ := pl
   exact call_list_seq p (.inr rfl) ho hc hd (fun h' c' kp e => fin its r' hz h' c' kp e) (by simp only [List.size_toArray] <;> omega)
theorem iY : CallR X (.type "tuple") (fun xs H Q => ∃ p ys, xs = [.ref p] ∧ ((SqL X.K H p ys ∧ ∀ l, H l = none → Q (.ref l) (upd H l (.tup ys))) ∨ (SqT X.K H p ys ∧ Q (.ref p) H))) := by
 intro pins s σ H xs us Q I r h
 obtain ⟨p, ys, rfl, h⟩ := h
 obtain ⟨u, rfl, rx⟩ := b5 r
 cases rx
 rcases h with ⟨hq, q⟩ | ⟨hq, q⟩
 · obtain ⟨its, r', pl, hz⟩ := I.list hq
   have hlen := r'.length
   refine call_tuple_list pl.isList (fun h' kp => ?_) (by simp only [List.size_toArray] <;> omega)
   have I1 : Inv X pins σ H { s with heap := h' } := I.kept (t' := s.toks) kp
   have I2 : Inv X pins σ (upd H h'.objs.size (.tup ys)) { s with heap := h'.push { cls := .type "tuple", data := .seq its.toArray } } :=
    I1.laid (t' := s.toks) (fun b o e => Heap.get?_push_of_some _ e) (Nat.le_refl _) (show ObjOk X.prog X.w _ _ _ (.tup ys) from ⟨hz, its, r', IsTup.new _ _⟩)
   exact ⟨.ref h'.objs.size, _, I2, rfl, q _ (I1.hok.fresh (Nat.le_refl _))⟩
 · obtain ⟨its, r', pl, hz⟩ := I.tuple hq
   exact call_tuple_same pl ⟨.ref p, H, I, rfl, q⟩
def tyV (K : PySem.W.Frag) (T : String) (x : V) (H : Hp) : Prop := match x with
 | .str _ => T = "str"
 | .int _ => T = "int"
 | .ref p => (T = "list" ∧ ∃ xs, SqL K H p xs) ∨ (T = "tuple" ∧ ∃ o, K.lookup p = some o ∧ o.cls = .type "tuple" ∧ o.dict = none) ∨
  (T = "dict" ∧ ((∃ kvs, H p = some (.dK kvs)) ∨ ∃ kvs, H p = some (.dT kvs))) ∨ (T = "set" ∧ ∃ S n, H p = some (.set S n))
 | _ => False
theorem yl {pins : List (Addr × Obj)} {σ : St} {H : Hp} {s : Shared} {T : String} {x : V} {v : Value} (I : Inv X pins σ H s) (r : RelV x v) (ty : tyV X.K T x H) :
 s.TypeIs v T ∧ ∀ a, v = .ref a → ∃ ob, s.heap.get? a = some ob ∧ ob.dict = none := by
 cases x with
 | str z =>
  obtain ⟨t, rfl⟩ := r
  cases (show T = "str" from ty)
  exact ⟨typeIs_str s z t, fun _ e => nomatch e⟩
 | int i =>
  obtain ⟨t, rfl⟩ := r
  cases (show T = "int" from ty)
  exact ⟨typeIs_int s i t, fun _ e => nomatch e⟩
 | ref p =>
  cases r
  rcases ty with ⟨rfl, xs, hq⟩ | ⟨rfl, o, hk, hc, hd⟩ | ⟨rfl, hk⟩ | ⟨rfl, S, n, hk⟩
  · obtain ⟨its, _, pl, _⟩ := I.list hq
    refine ⟨pl.isList.typeIs, fun a e => ?_⟩
    cases e
    obtain ⟨o, n, e, c, hd, _⟩ := pl
    exact ⟨o, e, hd⟩
  · refine ⟨⟨o, I.kIn p o hk, hc⟩, fun a e => ?_⟩
    cases e
    exact ⟨o, I.kIn _ o hk, hd⟩
  · have z : ∃ o, s.heap.get? p = some o ∧ o.ExactDict := by
     rcases hk with ⟨kvs, hk⟩ | ⟨kvs, hk⟩
     · obtain ⟨_, _, _, _, o, _, _, e, ex, _⟩ := I.hok p _ hk
       exact ⟨o, e, ex⟩
     · obtain ⟨_, _, _, _, o, _, _, e, ex, _⟩ := I.hok p _ hk
       exact ⟨o, e, ex⟩
    obtain ⟨o, e, ex⟩ := z
    refine ⟨⟨o, e, ex.1⟩, fun a e2 => ?_⟩
    cases e2
    exact ⟨o, e, ex.2.1⟩
  · obtain ⟨o, _, _, _, e, ex, _⟩ := I.hok p _ hk
    refine ⟨⟨o, e, ex.1⟩, fun a e2 => ?_⟩
    cases e2
    exact ⟨o, e, ex.2.1⟩
 | _ => exact False.elim ty
def tBM (K : PySem.W.Frag) (T : String) (r : V → List V → Hp → VK → Prop) (to : TE) (t : TA) : TE := fun σ H Q => to σ H fun x H1 => tyV K T x H1 ∧ t σ H1 fun xs H2 => r x xs H2 Q
variable {o e : Expr} {es : List Expr} {to : TE} {t : TA} {name : Str} {apos cpos : Pos} {T id : String} {r : V → List V → Hp → VK → Prop}
theorem sH (pa : PlainAttrs T) (slot : Slot T name id) (hty : typeOf (.builtin id) = pure (.type "method_descriptor")) (hm : MtR X id r) (ho : PE X o to) (ha : PA X (e :: es) t)
 (hbase : attributeBase o name X.env (eval o X.env) = eval o X.env := by rfl)
 (hfew : ((backTo cpos (starEach (e :: es) X.env)).all (fun x => !x.1) && (backToKw cpos (keywordEach [] X.env)).all (fun x => x.1.isSome)
   && decide ((e :: es).length + ([] : List Keyword).length + (if ([] : List Keyword).isEmpty then 0 else 1) < 30)) = true := by rfl)
 (hline : (apos.endLine == cpos.line) = true := by rfl) (hs : starEach (e :: es) X.env = (false, eval e X.env) :: starEach es X.env := by rfl) (hplain : (backTo cpos (starEach es X.env)).any (·.1) = false := by rfl) :
 PE X (.Call (.Attribute o name apos) (e :: es) [] cpos) (tBM X.K T r to t) := by
 intro pins s σ H Q I h
 refine wpAny_Call_method_late hbase hfew hline rfl (thn (ho pins s σ H _ I h) fun v s1 ⟨x, H1, I1, r1, ty, q1⟩ => ?_)
 obtain ⟨h1, h2⟩ := yl I1 r1 ty
 refine ⟨T, id, pa, slot, hty, h1, h2, ?_⟩
 have hA := ha cpos pins s1 σ H1 _ I1 q1
 rw [hs] at hA ⊢
 refine Calls.callWith_builtin (by show (false || (backTo cpos (starEach es X.env)).any (·.1)) = false; rw [hplain] <;> rfl) (Calls.evalArgs_plain ?_)
 exact thn hA fun us s2 ⟨vs, H2, I2, r2, q2⟩ => hm pins s2 σ H2 x vs v us Q I2 r1 r2 q2
end
def MtM (X : Cx) (id : String) (r : V → List V → Hp → VK → Prop) : Prop :=
 ∀ (pins : List (Addr × Obj)) (s : Shared) (σ : St) (H : Hp) (x : V) (xs : List V) (v : Value) (us : List Value) (Q : VK), Inv X pins σ H s → RelV x v → Vals xs us → r x xs H Q →
  wpAny (model X.prog X.w) X.A (call (.builtin id) (v :: us)) (EP X pins σ Q) X.xe s
theorem Vals.one : ∀ {x : V} {us : List Value}, Vals [x] us → ∃ u, us = [u] ∧ RelV x u
 | _, _, .cons r .nil => ⟨_, rfl, r⟩
theorem Vals.two : ∀ {x y : V} {us : List Value}, Vals [x, y] us → ∃ u v, us = [u, v] ∧ RelV x u ∧ RelV y v
 | _, _, _, .cons r (.cons q .nil) => ⟨_, _, rfl, r, q⟩
theorem Vals.zero : ∀ {us : List Value}, Vals [] us → us = []
 | _, .nil => rfl
theorem Vals.eraseIdx : ∀ {xs : List V} {us : List Value} (i : Nat), Vals xs us → Vals (xs.eraseIdx i) (us.eraseIdx i)
 | _, _, _, .nil => .nil
 | _, _, 0, .cons _ t => t
 | _, _, i + 1, .cons r t => .cons r (Vals.eraseIdx i t)
theorem Vals.reverse {xs : List V} {us : List Value} (h : Vals xs us) : Vals xs.reverse us.reverse := by
 induction h with
 | nil => exact .nil
 | cons r t ih => rw [List.reverse_cons, List.reverse_cons]; exact Vals.append ih (.cons r .nil)
section
variable {X : Cx} {pins : List (Addr × Obj)} {σ : St} {H : Hp} {s : Shared} {l b : Addr} {xs ys zs : List V}
theorem Inv.lset {its its' : List Value} {n : Nat} {f : Array Value → Array Value} {t' : Nat} (I : Inv X pins σ H s) (hH : H l = some (.lst xs))
 (e : s.heap.get? l = some { cls := .type "list", data := .seq its.toArray n }) (hf : f its.toArray = its'.toArray) (hv : Vals ys its') (hz : ys.length ≤ sizeLine) :
 Inv X pins σ (upd H l (.lst ys)) { s with heap := s.heap.update l (Obj.mapSeq f), toks := t' } := by
 have q := PySem.IsL.update e f
 rw [hf] at q
 refine I.write (x := l) (e := l) (by rw [hH]; exact trivial) (.inl rfl) (fun b' u hb hu => (Heap.get?_update_other s.heap (Obj.mapSeq f) (Ne.symm hb)).trans hu) ⟨_, q⟩ ?_
 exact ⟨hz, its', _, hv, q⟩
theorem Inv.lnew {its : List Value} {t' : Nat} (I : Inv X pins σ H s) (hv : Vals ys its) (hz : ys.length ≤ sizeLine) :
 Inv X pins σ (upd H s.heap.objs.size (.lst ys)) { s with heap := s.heap.push { cls := .type "list", data := .seq its.toArray }, toks := t' } :=
 I.laid (fun _ _ q => Heap.get?_push_of_some _ q) (Nat.le_refl _) ⟨hz, its, 0, hv, Heap.get?_push_size _ rfl⟩
theorem Inv.fresh (I : Inv X pins σ H s) : H s.heap.objs.size = none := I.hok.fresh (Nat.le_refl _)
theorem Inv.lstM (I : Inv X pins σ H s) (hH : H l = some (.lst xs)) : xs.length ≤ sizeLine ∧ ∃ (its : List Value) (n : Nat), Vals xs its ∧ xs.length = its.length ∧ s.heap.get? l = some { cls := .type "list", data := .seq its.toArray n } := by
 obtain ⟨z, its, n, r, e⟩ := I.hok l _ hH
 exact ⟨z, its, n, r, r.length, e⟩
end
section
variable {X : Cx}
def vG : V → List V → Hp → VK → Prop := fun x vs H Q => ∃ l xs y, x = .ref l ∧ vs = [y] ∧ H l = some (.lst xs) ∧ xs.length < sizeLine ∧ Q .non (upd H l (.lst (xs ++ [y])))
theorem pC : MtM X "list.append" vG := by
 intro pins s σ H x vs v us Q I rx rv h
 obtain ⟨l, xs, y, rfl, rfl, hH, hz, q⟩ := h
 cases rx
 obtain ⟨u, rfl, ru⟩ := rv.one
 obtain ⟨z, its, n, r, hl, e⟩ := I.lstM hH
 refine call_meets F.slot_list_append ⟨_, e, rfl⟩ F.entry_list_append (F.args_list_append_2 _ _) (PySem.list_append l its.toArray n u (by rw [List.size_toArray]; omega)) ⟨e, ?_⟩
 refine ⟨.non, _, I.lset (its' := its ++ [u]) hH e (by simp) (r.append (.cons ru .nil)) ?_, rfl, q⟩
 rw [List.length_append, List.length_singleton]
 omega
def Df : R2 := fun x y H Q => ∃ l b xs zs, x = .ref l ∧ y = .ref b ∧ H l = some (.lst xs) ∧ H b = some (.lst zs) ∧ xs.length + zs.length ≤ sizeLine ∧ ∀ p, H p = none → Q (.ref p) (upd H p (.lst (xs ++ zs)))
theorem ym : OpR X (binaryOp .Add) Df := by
 intro pins s σ H x y v u Q I rx ry h
 obtain ⟨l, b, xs, zs, rfl, rfl, hH, hB, hz, q⟩ := h
 cases rx
 cases ry
 obtain ⟨z, its, n, r, hl, e⟩ := I.lstM hH
 obtain ⟨z2, its2, n2, r2, hl2, e2⟩ := I.lstM hB
 refine PySem.P.add_list e e2 ?_ (by rw [List.size_toArray, List.size_toArray]; omega)
 have ea : its.toArray ++ its2.toArray = (its ++ its2).toArray := by simp
 rw [ea]
 exact ⟨.ref _, _, I.lnew (t' := s.toks) (r.append r2) (by rw [List.length_append]; omega), rfl, q _ I.fresh⟩
end
section
variable {prog : Program} {w : World} {A : Around} {E : Value → Shared → Prop} {s : Shared}
end
section
variable {X : Cx}
end
end L2
namespace Att
open PySem PySem.W PySem.Calls PyProof.Rows
theorem gm {P : Params} {h : Heap} : ∀ (ns : List Int) (vs : List Value), WellAll P h vs (ns.map WData.int) → IntsAre vs ns := by
 intro ns
 induction ns with
 | nil =>
  intro vs w
  rw [List.map_nil] at w
  cases w
  exact .nil
 | cons n ns ih =>
  intro vs w
  rw [List.map_cons] at w
  cases w with
  | cons a b =>
   cases a
   exact .cons _ _ (ih _ b)
theorem pD {l : OpenLaw} {n : Nat} (hn : l.most = some n) {P : Params} {h : Heap} {args : List WData} {vals : List Value}
 (hpre : l.row.toRowW.claim.pre args = true) (hwl : WellAll P h vals args) :
 ∃ a vs ns, vals = [Value.ref a] ∧ args = [WData.list (ns.map WData.int)] ∧ h.get? a = some { cls := .type "list", data := .seq vs.toArray } ∧ IntsAre vs ns ∧ ns.length ≤ n := by
 have hsh : WShape.hasAll [] args [.list .int] = true := (pre_splitW hpre).1
 have hc : l.pre.holds [] { args := args } = true := (pre_splitW hpre).2
 obtain ⟨d, r, rfl, h1, h2⟩ := hasAllW_cons hsh
 obtain rfl := hasAllW_nil h2
 obtain ⟨xs, rfl, h3⟩ := hasW_list h1
 obtain ⟨ns, rfl⟩ := items_int h3
 have hlen : ns.length ≤ n := by
  unfold OpenLaw.pre at hc
  have h4 : (WTm.not (.lt (.lit (.int (n : Int))) (.len (.arg 0)))).holds [] { args := [.list (ns.map .int)] } = true := by
   have h4 := (holds_andW hc).1
   rw [hn] at h4
   exact h4
  have h5 := condW_of h4 (w_not (w_lt w_lit (w_len_list (w_arg rfl))))
  rw [List.length_map] at h5
  refine Nat.le_of_not_lt fun q => ?_
  have q' : (n : Int) < ((ns.length : Nat) : Int) := by omega
  first
   | (rw [decide_eq_true q'] at h5; exact absurd h5 (by decide))
   | (simp at h5; omega)
 cases hwl with
 | cons w1 w2 =>
  cases w2
  cases w1 with
  | list ho hall => exact ⟨_, _, ns, rfl, rfl, ho, gm ns _ hall, hlen⟩
theorem pE (l : OpenLaw) (args : List WData) : l.row.toRowW.claim.post args (.bool true) args = true :=
 postW_of (r := l.row.toRowW) (X := (true == true))
  (show WShape.has [] (.bool true) .bool = true by first | rfl | decide | simp [WShape.has, WShape.arms, WShape.armsAll])
  (show (WTm.eq .res (.lit (.bool true))).value [] { args := args, res := some (.bool true), after := args } = some (.bool (true == true)) from w_eq_bool (w_res rfl) w_lit) rfl
theorem attach_call {l : OpenLaw} {n : Nat} {q : Program} {loose : List Str} {XP : (Str → Option Value) → Heap → Prop} {YP : World → Heap → Prop} {d : DefRec}
 (hn : l.most = some n) (hdf : d.params.defaults = [])
 (call : ∀ (w : World) (s₀ s₁ : Shared) (mg mb : Str → Option Value) (fa : Addr) (o : Obj) (pm cd doc : Value) (a : Addr) (vs : List Value) (ns : List Int),
   Ground q loose [] XP w s₀ mg mb s₁.heap → YP w s₁.heap →
   s₁.heap.get? fa = some o → o.data = .func (docDef d.name d.params d.body d.scope pm cd doc) → s₁.heap.CodeRec cd d.name → mg d.name = some (.ref fa) →
   s₁.heap.get? a = some { cls := .type "list", data := .seq vs.toArray } → IntsAre vs ns → ns.length ≤ n → s₁.gens = #[] →
   codeAny (model l.prog w) callerA (.call (.ref fa) ⟨[.ref a], []⟩) (fun r s' => r = .ok (.ret (.bool true)) ∧ OldK s₁.heap s'.heap ∧ s'.os = s₁.os ∧ AllBare s'.gens) s₁) :
 WalkO q loose XP YP l.row.toRowW d [] (fun f vs => PySem.call f vs) := by
 intro w s₀ s₁ mg mb G Y fa o pm cd doc dV kV ho hd hcd hD hmg hg args vals as hpre hlay hrd hwl hlo
 obtain rfl : dV = .none := Dflts.none hD hdf
 obtain rfl : kV = .none := Dflts.noKw hD
 obtain ⟨a, vs, ns, rfl, rfl, hobj, hints, hlen⟩ := pD hn hpre hwl
 refine enter_call (codeAny_mono (call w s₀ s₁ mg mb fa o pm cd doc a vs ns G Y ho (fd_plain hd) hcd hmg hobj hints hlen hg) fun r s' hq => ?_)
 obtain ⟨rfl, h2, h3, h4⟩ := hq
 exact ⟨.inl ⟨.bool true, .bool true, [], rfl, fun _ => rfl, .bool true, pE l _, fun _ => ⟨List.Pairwise.nil, fun _ hm => (nomatch hm)⟩⟩, h2, h3, h4⟩
section
variable {prog : Program} {w : World} {A : Around} {E : Value → Shared → Prop} {s : Shared} {K : Frag}
def Dg (h : Heap) (L d : Addr) : List (Addr × Obj) := (List.range h.objs.size).filterMap fun a => if a = L ∨ a = d then none else (h.get? a).map fun o => (a, o)
end
end Att
namespace L2
open PySem PySem.Spec PyProof.Rows
theorem cX : ∀ {vs : List Value} {ns : List Int}, IntsAre vs ns → Vals (ns.map V.int) vs
 | _, _, .nil => .nil
 | _, _, .cons n t h => .cons ⟨t, rfl⟩ (cX h)
def BK (H : Hp) : Prop := ∀ b, H b = none ∨ ∃ o xs, H b = some (.frz o (.lst xs))
theorem sI {P : Program} {w : World} {K : PySem.W.Frag} {mg mb : Str → Option Value} {CX : CXT} {k : Nat} {fa a : Addr} {fd : FuncData} {x : Str} {sp : Sp} {s₁ : Shared} {vs : List Value} {ns : List Int}
 (KX : K.In s₁.heap) (hns : s₁.heap.Ns mainGlobals mg) (hb : s₁.heap.Ns builtinsNs mb) (hbb : ∀ x : Str, x ≠ "__name__" → mb x = bootBuiltins x) (hlim : s₁.heap.NoLimit) (hg : s₁.gens = #[])
 (ha : s₁.heap.get? a = some { cls := .type "list", data := .seq vs.toArray }) (hi : IntsAre vs ns) (hl : ns.length ≤ sizeLine) (hr : Room k callerA)
 (F : ∀ base : Heap, K.In base → base.Ns mainGlobals mg → FnOk P w K mg base CX k fa fd [x] sp) (hbind : ∀ (s : Shared) (u : Value), BindsTo s fd ⟨[u], []⟩ [(x, u)])
 (hsp : ∀ H : Hp, BK H → SqL K H a (ns.map V.int) → sp [.ref a] H (fun v _ => v = .bl true) fun _ _ _ => False)
 (hCX : ∀ H e s', CX [] H s₁ (fun _ _ _ => False) e s' → False) :
 codeAny (model P w) callerA (.call (.ref fa) ⟨[.ref a], []⟩) (fun r s' => r = .ok (.ret (.bool true)) ∧ OldK s₁.heap s'.heap ∧ s'.os = s₁.os ∧ AllBare s'.gens) s₁ := by
 have rv := cX hi
 have lenV := hi.length
 have core : ∀ H : Hp, BK H → SqL K H a (ns.map V.int) → HOk P w H s₁.heap → (∀ b, H b ≠ none → b = a) → (H a ≠ none → K.lookup a = none) →
  codeAny (model P w) callerA (.call (.ref fa) ⟨[.ref a], []⟩) (fun r s' => r = .ok (.ret (.bool true)) ∧ OldK s₁.heap s'.heap ∧ s'.os = s₁.os ∧ AllBare s'.gens) s₁ := by
  intro H hO hS hok hA hK
  have base_of : ∀ {b : Addr} {o : Obj}, s₁.heap.get? b = some o → H b = none → (sx s₁.heap H).get? b = some o := fun e n => sy e n
  have noA : ∀ {b : Addr} {o : Obj} {es : Array DictEntry} {ep : Nat}, s₁.heap.get? b = some o → o.data = .dict es ep → H b = none := fun {b o es ep} e d => by
   cases q : H b with
   | none => rfl
   | some u =>
    have e' : b = a := hA b (by rw [q]; simp)
    subst e'
    rw [ha] at e; cases e
    have d' : Data.seq vs.toArray _ = Data.dict es ep := d
    cases d'
  have nsK : ∀ {b : Addr} {m : Str → Option Value}, s₁.heap.Ns b m → (sx s₁.heap H).Ns b m := fun {b m} ⟨o, es, ep, e, d, r⟩ => ⟨o, es, ep, base_of e (noA e d), d, r⟩
  have hKb : K.In (sx s₁.heap H) := fun b o e => base_of (KX b o e) (by
   cases q : H b with
   | none => rfl
   | some u =>
    have e' : b = a := hA b (by rw [q]; simp)
    subst e'
    rw [hK (by rw [q]; simp)] at e; cases e)
  have hM : Mod K mg (sx s₁.heap H) := ⟨hKb, nsK hns, ⟨mb, nsK hb, hbb⟩, let ⟨mc, h1, h2⟩ := hlim; ⟨mc, nsK h1, h2⟩⟩
  have e0 : Env0 P w K mg (sx s₁.heap H) callerA [] s₁ H := ⟨rfl, hM, fun b o e => vo e, Nat.le_of_eq (oR _ _), trivial, fun b hb => absurd (show b ∈ ([] : List Addr) from hb) (by simp), hok, .of_eq hg⟩
  refine codeAny_mono ((F _ hKb (nsK hns)).run callerA [] s₁ H ⟨[.ref a], []⟩ [.ref a] [.ref a] _ _ hr e0 (hbind s₁ (.ref a)) (.cons rfl .nil) (hsp H hO hS)) fun r s' h => ?_
  cases r with
  | error e => exact (hCX H e s' h).elim
  | ok fl =>
   cases fl with
   | next => exact False.elim h
   | brk => exact False.elim h
   | cont => exact False.elim h
   | ret u =>
    obtain ⟨v, H', os, bare, un, hok', r', q⟩ := h
    have q' : v = .bl true := q
    subst q'
    obtain rfl : u = Value.bool true := r'
    refine ⟨rfl, OldK.of_keep fun b o e => ?_, os, bare⟩
    cases q : H b with
    | none => exact un.keep b o e q (by intro z; exact absurd (show b ∈ ([] : List Addr) from z) (by simp)) (by simp)
    | some u =>
     rcases hO b with z | ⟨ob, xs, z⟩
     · rw [q] at z; cases z
     · have z2 := un.frzs b ob _ z
       obtain ⟨e1, _⟩ := hok b _ z
       obtain ⟨e2, _⟩ := hok' b _ z2
       rw [e] at e1; cases e1
       exact e2
 cases hk : K.lookup a with
 | some o =>
  have e := KX a o hk
  rw [ha] at e
  cases e
  refine core (fun _ => none) (fun _ => .inl rfl) (.inr ⟨_, vs.toArray, _, hk, rfl, rfl, rfl, by rw [List.size_toArray, lenV]; exact hl, by simpa using rv⟩) (fun b u z => by have z' : (none : Option HO) = some u := z; cases z') (fun b z => absurd rfl z) fun z => absurd rfl z
 | none =>
  refine core (fun b => if b = a then some (.frz { cls := .type "list", data := .seq vs.toArray } (.lst (ns.map V.int))) else none) (fun b => ?_) (.inl (.inr ⟨{ cls := .type "list", data := .seq vs.toArray }, if_pos rfl⟩)) (fun b u z => ?_) (fun b z => ?_) fun _ => hk
  · by_cases hb : b = a
    · exact .inr ⟨_, _, if_pos hb⟩
    · exact .inl (if_neg hb)
  · by_cases hb : b = a
    · have z' := (if_pos hb).symm.trans z
      cases z'
      subst hb
      exact ⟨ha, by rw [List.length_map]; exact hl, vs, _, rv, ha⟩
    · have z' := (if_neg hb).symm.trans z
      cases z'
  · by_cases hb : b = a
    · exact hb
    · exact absurd (if_neg hb) z
theorem walk_of {l : PySem.W.OpenLaw} {n k : Nat} {q : Program} {loose : List Str} {XP : (Str → Option Value) → Heap → Prop} {YP : World → Heap → Prop} {d : DefRec} {K : Params → PySem.W.Frag} {CX : World → CXT} {sp : World → Sp} {x : Str}
 (hn : l.most = some n) (hn2 : n ≤ sizeLine) (hdf : d.params.defaults = []) (hr : Room k callerA)
 (hY : ∀ (w : World) (h : Heap), YP w h → (K w.params).In h)
 (F : ∀ (w : World) (mg : Str → Option Value) (fa : Addr) (h : Heap), (K w.params).In h → h.Ns mainGlobals mg → mg d.name = some (.ref fa) →
   ∃ fd : FuncData, (∀ (s : Shared) (u : Value), BindsTo s fd ⟨[u], []⟩ [(x, u)]) ∧
    ∀ base : Heap, (K w.params).In base → base.Ns mainGlobals mg → FnOk l.prog w (K w.params) mg base (CX w) k fa fd [x] (sp w))
 (hsp : ∀ (w : World) (H : Hp) (a : Addr) (ns : List Int), ns.length ≤ n → BK H → SqL (K w.params) H a (ns.map V.int) → sp w [.ref a] H (fun v _ => v = .bl true) fun _ _ _ => False)
 (hCX : ∀ (w : World) (H : Hp) (s : Shared) (e : Value) (s' : Shared), CX w [] H s (fun _ _ _ => False) e s' → False) :
 PySem.W.WalkO q loose XP YP l.row.toRowW d [] (fun f vs => PySem.call f vs) := by
 refine Att.attach_call hn hdf fun w s₀ s₁ mg mb fa o pm cd doc a vs ns G Y ho hd hcd hmg hobj hints hlen hg => ?_
 have KX := hY w _ Y
 obtain ⟨fd, hb, hF⟩ := F w mg fa _ KX G.T.g hmg
 exact sI KX G.T.g G.T.b G.T.builtins G.T.nolimit hg hobj hints (Nat.le_trans hlen hn2) hr hF hb (fun H hO hS => hsp w H a ns hlen hO hS) fun H e s' => hCX w H s₁ e s'
def eU (s : Stmt) : Arguments := match s with
 | .FunctionDef _ a _ _ _ _ _ _ _ _ => a
 | _ => { posonlyargs := [], args := [], vararg := none, kwonlyargs := [], kw_defaults := [], kwarg := none, defaults := [] }
def cg (s : Stmt) : List Stmt := match s with
 | .FunctionDef _ _ b _ _ _ _ _ _ _ => b
 | _ => []
def aE (s : Stmt) : Scope := match s with
 | .FunctionDef _ _ _ _ _ _ sc _ _ _ => sc
 | _ => { kind := .function, names := [], isGenerator := false, isCoroutine := false }
abbrev CX0 : CXT := fun _ _ _ _ _ _ => False
abbrev E0 : XK := fun _ _ _ => False
theorem BL {X : Cx} : pq CX0 X E0 := fun _ _ _ _ _ _ _ h => h.elim
structure Fun (K : PySem.W.Frag) (x qual : Str) (st : Stmt) (f : Addr) (fd : FuncData) : Prop where
 ex : ∃ (oc : Value) (od : Option Addr) (kV doc pm : Value) (an : Option Addr) (cdv ct : Value) (osl : Array (Option Value)),
  fd = PySem.W.fnOf x qual (eU st) (cg st) (aE st) .none kV doc pm an cdv ct ∧ K.lookup f = some ⟨oc, od, .func fd, osl⟩ ∧ PySem.W.codeIn K cdv qual = true
 kp : PySem.W.keepIn K (.ref f) = true
section
variable {P : Program} {w : World} {K : PySem.W.Frag} {mg : Str → Option Value} {base : Heap}
theorem Fun.ok {x qual : Str} {st : Stmt} {f : Addr} {fd : FuncData} {N ps : List Str} {k : Nat} {sp : Sp} (F : Fun K x qual st f fd) (S : eS N ps (aE st)) (len : ∀ vs H Q E, sp vs H Q E → vs.length = ps.length)
 (hbody : ∀ (cdv : Value) (A : Around) (outer : List Env) (s : Shared) (H : Hp) (vs : List V) (Q : VK) (E : XK), Room k (A.deeper (envOfC qual (aE st) s.heap.objs.size f cdv)) → sp vs H Q E →
   ∃ t, PSs (sE CX0 P w K mg base N qual (aE st) f cdv A outer s H E).nox (cg st) t ∧ t { nx := fun _ H' => Q .non H', rt := Q } (start N vs) H) : FnOk P w K mg base CX0 (k + 1) f fd ps sp := by
 obtain ⟨oc, od, kV, doc, pm, an, cdv, ct, osl, rfl, lk, hcd⟩ := F.ex
 refine BH lk hcd S len fun A outer s H vs Q E hr hsp => ?_
 obtain ⟨t, h, q⟩ := hbody cdv A outer s H vs Q E hr hsp
 exact ⟨t, h.nox, q⟩
theorem Fun.binds {x qual : Str} {st : Stmt} {f : Addr} {fd : FuncData} {ps : List Str} (F : Fun K x qual st f fd)
 (h : ∀ (kV doc pm : Value) (an : Option Addr) (cdv ct : Value) (us : List Value), us.length = ps.length → bindArgs (PySem.W.fnOf x qual (eU st) (cg st) (aE st) .none kV doc pm an cdv ct) ⟨us, []⟩ = pure (ps.zip us)) : Binds K fd ps [] := by
 obtain ⟨oc, od, kV, doc, pm, an, cdv, ct, osl, rfl, lk, hcd⟩ := F.ex
 exact .all (h kV doc pm an cdv ct)
theorem yn {x qual : Str} {st : Stmt} {f : Addr} {oc : Value} {od an : Option Addr} {osl : Array (Option Value)} {kV doc pm cdv ct : Value} (l : K.lookup f = some ⟨oc, od, .func (PySem.W.fnOf x qual (eU st) (cg st) (aE st) .none kV doc pm an cdv ct), osl⟩)
 (c : PySem.W.codeIn K cdv qual = true) (k : PySem.W.keepIn K (.ref f) = true) : Fun K x qual st f (PySem.W.fnOf x qual (eU st) (cg st) (aE st) .none kV doc pm an cdv ct) := ⟨⟨oc, od, kV, doc, pm, an, cdv, ct, osl, rfl, l, c⟩, k⟩
end
section
variable {X : Cx}
end
theorem vH {A B : Prop} (h : B) : if false = true then A else B := by
 rw [if_neg Bool.false_ne_true]
 exact h
theorem vI {A B : Prop} (h : A) : if true = true then A else B := by
 rw [if_pos rfl]
 exact h
def Same (H H' : Hp) : Prop := ∀ b o, H b = some o → H' b = some o
theorem Same.refl (H : Hp) : Same H H := fun _ _ h => h
theorem Same.trans {H H1 H2 : Hp} (a : Same H H1) (b : Same H1 H2) : Same H H2 := fun c o h => b c o (a c o h)
theorem Same.free {H H' : Hp} (e : Same H H') {l : Addr} (h : H' l = Option.none) : H l = Option.none := by
 cases q : H l with
 | none => rfl
 | some o =>
  rw [e l o q] at h
  cases h
theorem Same.seq {K : PySem.W.Frag} {H H' : Hp} {a : Addr} {xs : List V} (e : Same H H') (h : SqL K H a xs) : SqL K H' a xs := by
 rcases h with (h | ⟨o, h⟩) | h
 · exact .inl (.inl (e _ _ h))
 · exact .inl (.inr ⟨o, e _ _ h⟩)
 · exact .inr h
end L2
namespace FD
open PySem PySem.Spec PyProof.Rows L2
inductive Dv where
 | non | bl (b : Bool) | int (i : Int) | str (x : Str) | tup (xs : List Dv) | lst (xs : List Dv) | scr (ns : List Int) | exn (c : Nat)
def xnm : Nat → Str
 | 0 => "NoName" | 1 => "NoTable" | 2 => "NoPath" | 3 => "NoAsk" | 4 => "NoNote" | 5 => "NoJar" | 6 => "NoNumber" | 7 => "NoText" | 8 => "NoStep" | _ => "JarError"
mutual
def Rep (K : PySem.W.Frag) (H : Hp) : Dv → V → Prop
 | .non, v => v = .non
 | .bl b, v => v = .bl b
 | .int i, v => v = .int i
 | .str x, v => v = .str x
 | .tup ds, v => ∃ a xs, v = .ref a ∧ H a = some (.tup xs) ∧ Reps K H ds xs
 | .lst ds, v => ∃ a xs, v = .ref a ∧ H a = some (.lst xs) ∧ Reps K H ds xs
 | .scr ns, v => ∃ a, v = .ref a ∧ SqL K H a (ns.map V.int)
 | .exn c, v => ∃ a o u C, v = .ref a ∧ H a = some (.frz o u) ∧ o.cls = .ref C ∧ PySem.W.nsIn K mainGlobals (xnm c) = some (some (.ref C))
def Reps (K : PySem.W.Frag) (H : Hp) : List Dv → List V → Prop
 | [], vs => vs = []
 | d :: ds, vs => ∃ v us, vs = v :: us ∧ Rep K H d v ∧ Reps K H ds us
end
section
variable {K : PySem.W.Frag} {H H' : Hp}
mutual
theorem Rep.mono (e : Same H H') : ∀ (d : Dv) (v : V), Rep K H d v → Rep K H' d v
 | .non, _, h => h
 | .bl _, _, h => h
 | .int _, _, h => h
 | .str _, _, h => h
 | .tup ds, v, h => by
  obtain ⟨a, xs, r, h, q⟩ : ∃ a xs, v = .ref a ∧ H a = some (.tup xs) ∧ Reps K H ds xs := h
  exact ⟨a, xs, r, e _ _ h, Reps.mono e ds xs q⟩
 | .lst ds, v, h => by
  obtain ⟨a, xs, r, h, q⟩ : ∃ a xs, v = .ref a ∧ H a = some (.lst xs) ∧ Reps K H ds xs := h
  exact ⟨a, xs, r, e _ _ h, Reps.mono e ds xs q⟩
 | .scr ns, v, h => by
  obtain ⟨a, r, h⟩ : ∃ a, v = .ref a ∧ SqL K H a (ns.map V.int) := h
  exact ⟨a, r, e.seq h⟩
 | .exn c, v, h => by
  obtain ⟨a, o, u, C, r, h, q⟩ : ∃ a o u C, v = .ref a ∧ H a = some (.frz o u) ∧ o.cls = .ref C ∧ PySem.W.nsIn K mainGlobals (xnm c) = some (some (.ref C)) := h
  exact ⟨a, o, u, C, r, e _ _ h, q⟩
theorem Reps.mono (e : Same H H') : ∀ (ds : List Dv) (vs : List V), Reps K H ds vs → Reps K H' ds vs
 | [], _, h => h
 | d :: ds, vs, h => by
  obtain ⟨v, us, r, h, q⟩ : ∃ v us, vs = v :: us ∧ Rep K H d v ∧ Reps K H ds us := h
  exact ⟨v, us, r, Rep.mono e d v h, Reps.mono e ds us q⟩
end
theorem Reps.nil : Reps K H [] [] := rfl
theorem Reps.cons {d ds v vs} (h : Rep K H d v) (t : Reps K H ds vs) : Reps K H (d :: ds) (v :: vs) := ⟨v, vs, rfl, h, t⟩
theorem Reps.length : ∀ {ds : List Dv} {vs : List V}, Reps K H ds vs → vs.length = ds.length
 | [], vs, h => by cases (show vs = [] from h); rfl
 | d :: ds, vs, h => by
  obtain ⟨v, us, r, _, q⟩ : ∃ v us, vs = v :: us ∧ Rep K H d v ∧ Reps K H ds us := h
  subst r
  show us.length + 1 = ds.length + 1
  rw [Reps.length q]
theorem Reps.get : ∀ {ds : List Dv} {vs : List V} {i : Nat} {v : V}, Reps K H ds vs → vs[i]? = some v → ∃ d, ds[i]? = some d ∧ Rep K H d v
 | [], vs, i, v, h, e => by cases (show vs = [] from h); simp at e
 | d :: ds, vs, i, v, h, e => by
  obtain ⟨v', us, r, h', q⟩ : ∃ v us, vs = v :: us ∧ Rep K H d v ∧ Reps K H ds us := h
  subst r
  cases i with
  | zero => simp at e; subst e; exact ⟨d, rfl, h'⟩
  | succ i =>
   obtain ⟨d', e', r'⟩ := Reps.get (i := i) q (by simpa using e)
   exact ⟨d', by simpa using e', r'⟩
theorem Reps.get' : ∀ {ds : List Dv} {vs : List V} {i : Nat} {d : Dv}, Reps K H ds vs → ds[i]? = some d → ∃ v, vs[i]? = some v ∧ Rep K H d v
 | [], vs, i, v, h, e => by simp at e
 | d :: ds, vs, i, d0, h, e => by
  obtain ⟨v', us, r, h', q⟩ : ∃ v us, vs = v :: us ∧ Rep K H d v ∧ Reps K H ds us := h
  subst r
  cases i with
  | zero => simp at e; subst e; exact ⟨v', rfl, h'⟩
  | succ i =>
   obtain ⟨d', e', r'⟩ := Reps.get' (i := i) q (by simpa using e)
   exact ⟨d', by simpa using e', r'⟩
theorem Reps.append : ∀ {ds es : List Dv} {vs us : List V}, Reps K H ds vs → Reps K H es us → Reps K H (ds ++ es) (vs ++ us)
 | [], es, vs, us, h, q => by cases (show vs = [] from h); exact q
 | d :: ds, es, vs, us, h, q => by
  obtain ⟨v', vs', r, h', t⟩ : ∃ v us, vs = v :: us ∧ Rep K H d v ∧ Reps K H ds us := h
  subst r
  exact ⟨v', vs' ++ us, rfl, h', Reps.append t q⟩
theorem Reps.take : ∀ {ds : List Dv} {vs : List V} (n : Nat), Reps K H ds vs → Reps K H (ds.take n) (vs.take n)
 | ds, vs, 0, _ => by simp [Reps]
 | [], vs, n + 1, h => by cases (show vs = [] from h); exact rfl
 | d :: ds, vs, n + 1, h => by
  obtain ⟨v', vs', r, h', t⟩ : ∃ v us, vs = v :: us ∧ Rep K H d v ∧ Reps K H ds us := h
  subst r
  exact ⟨v', vs'.take n, rfl, h', Reps.take n t⟩
theorem Reps.drop : ∀ {ds : List Dv} {vs : List V} (n : Nat), Reps K H ds vs → Reps K H (ds.drop n) (vs.drop n)
 | ds, vs, 0, h => h
 | [], vs, n + 1, h => by cases (show vs = [] from h); exact rfl
 | d :: ds, vs, n + 1, h => by
  obtain ⟨v', vs', r, h', t⟩ : ∃ v us, vs = v :: us ∧ Rep K H d v ∧ Reps K H ds us := h
  subst r
  exact Reps.drop n t
theorem Rep.lstE {ds : List Dv} {v : V} (h : Rep K H (.lst ds) v) : ∃ a xs, v = .ref a ∧ H a = some (.lst xs) ∧ Reps K H ds xs := h
theorem Rep.tupE {ds : List Dv} {v : V} (h : Rep K H (.tup ds) v) : ∃ a xs, v = .ref a ∧ H a = some (.tup xs) ∧ Reps K H ds xs := h
theorem Rep.exnE {c : Nat} {v : V} (h : Rep K H (.exn c) v) : ∃ a o u C, v = .ref a ∧ H a = some (.frz o u) ∧ o.cls = .ref C ∧ PySem.W.nsIn K mainGlobals (xnm c) = some (some (.ref C)) := h
theorem Rep.scrE {ns : List Int} {v : V} (h : Rep K H (.scr ns) v) : ∃ a, v = .ref a ∧ SqL K H a (ns.map V.int) := h
end
theorem aj {H : Hp} {p : Addr} (h : H p = none) (o : HO) : Same H (upd H p o) := fun b u q => by rw [ao (am q h)]; exact q
abbrev Ev := List (Option Dv)
structure Envs (K : PySem.W.Frag) (H : Hp) (σ : L2.St) (ρ : Ev) : Prop where
 len : σ.length = ρ.length
 at' : ∀ (i : Nat) (d : Dv), ρ[i]? = some (some d) → ∃ v, σ[i]? = some (some v) ∧ Rep K H d v
theorem Envs.mono {K : PySem.W.Frag} {H H' : Hp} {σ : L2.St} {ρ : Ev} (E : Envs K H σ ρ) (e : Same H H') : Envs K H' σ ρ :=
 ⟨E.len, fun i d h => let ⟨v, h1, h2⟩ := E.at' i d h; ⟨v, h1, Rep.mono e d v h2⟩⟩
theorem Envs.set {K : PySem.W.Frag} {H : Hp} {σ : L2.St} {ρ : Ev} {i : Nat} {d : Dv} {v : V} (E : Envs K H σ ρ) (r : Rep K H d v) : Envs K H (σ.set i (some v)) (ρ.set i (some d)) := by
 refine ⟨by rw [List.length_set, List.length_set]; exact E.len, fun j d' h => ?_⟩
 by_cases hj : i = j
 · subst hj
   by_cases hl : i < ρ.length
   · rw [List.getElem?_set_self hl] at h
     cases h
     exact ⟨v, by rw [List.getElem?_set_self (by rw [E.len]; exact hl)], r⟩
   · rw [List.getElem?_eq_none (by rw [List.length_set]; omega)] at h
     cases h
 · rw [List.getElem?_set_ne hj] at h
   rw [List.getElem?_set_ne hj]
   exact E.at' j d' h
def fgt (js : List Nat) (ρ : Ev) : Ev := js.foldl (fun r j => r.set j none) ρ
theorem Envs.fgt1 {K : PySem.W.Frag} {H : Hp} {σ : L2.St} {ρ : Ev} (j : Nat) (E : Envs K H σ ρ) : Envs K H σ (ρ.set j none) := by
 refine ⟨by rw [List.length_set]; exact E.len, fun i d h => ?_⟩
 by_cases hj : j = i
 · subst hj
   by_cases hl : j < ρ.length
   · rw [List.getElem?_set_self hl] at h
     cases h
   · rw [List.getElem?_eq_none (by rw [List.length_set]; omega)] at h
     cases h
 · rw [List.getElem?_set_ne hj] at h
   exact E.at' i d h
theorem Envs.fgt {K : PySem.W.Frag} {H : Hp} {σ : L2.St} : ∀ (js : List Nat) {ρ : Ev}, Envs K H σ ρ → Envs K H σ (fgt js ρ)
 | [], _, E => E
 | j :: js, _, E => Envs.fgt js (E.fgt1 j)
inductive Rs (α : Type) where
 | ok (a : α)
 | exc (c : Nat)
inductive Fl where
 | nx (ρ : Ev)
 | rt (d : Dv)
 | exc (c : Nat)
def Fly (N : Addr → Prop) (H : Hp) (e : Addr) (cls : Value) (h : Heap) : Prop := H e = none ∧ N e ∧ ∃ oe vs a0, h.get? e = some oe ∧ oe.cls = cls ∧ oe.data = .fields vs ∧ vs[0]? = some a0 ∧
 (vs[1]? = some .none ∨ ∃ T oT ts, vs[1]? = some (.ref T) ∧ T ≠ e ∧ H T = none ∧ N T ∧ h.get? T = some oT ∧ oT.data = .fields ts ∧ ts[3]? = some .none)
def DW (X : Cx) (a : Addr) : Prop := X.s₀.heap.get? a = none ∧ ∀ p ∈ X.pn, p.1 ≠ a
def BM (X : Cx) (H : Hp) (c : Nat) (e : Value) (s : Shared) : Prop := ∃ a C, e = .ref a ∧ PySem.W.nsIn X.K mainGlobals (xnm c) = some (some (.ref C)) ∧ Fly (DW X) H a (.ref C) s.heap
def XW (X : Cx) (c : Nat) (H : Hp) : Prop := ∀ pins σ H' s e, Same H H' → Inv X pins σ H' s → BM X H' c e s → X.xe e s
theorem XW.mono {X : Cx} {c : Nat} {H H' : Hp} (h : XW X c H) (e : Same H H') : XW X c H' := fun pins σ H1 s x e1 I q => h pins σ H1 s x (e.trans e1) I q
def Out (X : Cx) (H : Hp) (o : Option (Rs Dv)) (Q : VK) : Prop := match o with
 | none => False
 | some (.exc c) => XW X c H
 | some (.ok d) => ∀ v H', Same H H' → Rep X.K H' d v → Q v H'
def OutB (X : Cx) (H : Hp) (o : Option (Rs Bool)) (Q : Bool → Hp → Prop) : Prop := match o with
 | none => False
 | some (.exc c) => XW X c H
 | some (.ok d) => ∀ H', Same H H' → Q d H'
def OutA (X : Cx) (H : Hp) (o : Option (Rs (List Dv))) (Q : List V → Hp → Prop) : Prop := match o with
 | none => False
 | some (.exc c) => XW X c H
 | some (.ok ds) => ∀ vs H', Same H H' → Reps X.K H' ds vs → Q vs H'
def OutS (X : Cx) (H : Hp) (o : Option Fl) (D : oM) : Prop := match o with
 | none => False
 | some (.exc c) => XW X c H
 | some (.rt d) => ∀ v H', Same H H' → Rep X.K H' d v → D.rt v H'
 | some (.nx ρ) => ∀ σ H', Same H H' → Envs X.K H' σ ρ → D.nx σ H'
def bnd {α β : Type} (o : Option (Rs α)) (k : α → Option (Rs β)) : Option (Rs β) := match o with
 | none => none
 | some (.exc c) => some (.exc c)
 | some (.ok a) => k a
def cT {α : Type} (o : Option (Rs α)) (k : α → Option Fl) : Option Fl := match o with
 | none => none
 | some (.exc c) => some (.exc c)
 | some (.ok a) => k a
def sq (o : Option Fl) (k : Ev → Option Fl) : Option Fl := match o with
 | some (.nx ρ) => k ρ
 | o => o
section
variable {X : Cx} {H H' : Hp} {Q : VK} {QB : Bool → Hp → Prop} {QA : List V → Hp → Prop} {D : oM}
theorem Out.mono (e : Same H H') : ∀ {o : Option (Rs Dv)}, Out X H o Q → Out X H' o Q
 | none, h => h
 | some (.exc _), h => XW.mono h e
 | some (.ok _), h => fun v H1 e1 r => h v H1 (e.trans e1) r
theorem OutB.mono (e : Same H H') : ∀ {o : Option (Rs Bool)}, OutB X H o QB → OutB X H' o QB
 | none, h => h
 | some (.exc _), h => XW.mono h e
 | some (.ok _), h => fun H1 e1 => h H1 (e.trans e1)
theorem OutA.mono (e : Same H H') : ∀ {o : Option (Rs (List Dv))}, OutA X H o QA → OutA X H' o QA
 | none, h => h
 | some (.exc _), h => XW.mono h e
 | some (.ok _), h => fun v H1 e1 r => h v H1 (e.trans e1) r
theorem OutS.mono (e : Same H H') : ∀ {o : Option Fl}, OutS X H o D → OutS X H' o D
 | none, h => h
 | some (.exc _), h => XW.mono h e
 | some (.rt _), h => fun v H1 e1 r => h v H1 (e.trans e1) r
 | some (.nx _), h => fun v H1 e1 r => h v H1 (e.trans e1) r
theorem Out.bind {o : Option (Rs Dv)} {k : Dv → Option (Rs Dv)} {P : VK} (h : Out X H (bnd o k) Q) (hp : ∀ d v H', Same H H' → Rep X.K H' d v → Out X H' (k d) Q → P v H') : Out X H o P := by
 match o, h with
 | some (.exc _), h => exact h
 | some (.ok d), h => exact fun v H1 e r => hp d v H1 e r (Out.mono e h)
theorem Out.bindB {o : Option (Rs Dv)} {k : Dv → Option (Rs Bool)} {P : VK} (h : OutB X H (bnd o k) QB) (hp : ∀ d v H', Same H H' → Rep X.K H' d v → OutB X H' (k d) QB → P v H') : Out X H o P := by
 match o, h with
 | some (.exc _), h => exact h
 | some (.ok d), h => exact fun v H1 e r => hp d v H1 e r (OutB.mono e h)
theorem Out.bindA {o : Option (Rs Dv)} {k : Dv → Option (Rs (List Dv))} {P : VK} (h : OutA X H (bnd o k) QA) (hp : ∀ d v H', Same H H' → Rep X.K H' d v → OutA X H' (k d) QA → P v H') : Out X H o P := by
 match o, h with
 | some (.exc _), h => exact h
 | some (.ok d), h => exact fun v H1 e r => hp d v H1 e r (OutA.mono e h)
theorem Out.bindS {o : Option (Rs Dv)} {k : Dv → Option Fl} {P : VK} (h : OutS X H (cT o k) D) (hp : ∀ d v H', Same H H' → Rep X.K H' d v → OutS X H' (k d) D → P v H') : Out X H o P := by
 match o, h with
 | some (.exc _), h => exact h
 | some (.ok d), h => exact fun v H1 e r => hp d v H1 e r (OutS.mono e h)
theorem OutB.bind {o : Option (Rs Bool)} {k : Bool → Option (Rs Dv)} {P : Bool → Hp → Prop} (h : Out X H (bnd o k) Q) (hp : ∀ b H', Same H H' → Out X H' (k b) Q → P b H') : OutB X H o P := by
 match o, h with
 | some (.exc _), h => exact h
 | some (.ok d), h => exact fun H1 e => hp d H1 e (Out.mono e h)
theorem OutB.bindB {o : Option (Rs Bool)} {k : Bool → Option (Rs Bool)} {P : Bool → Hp → Prop} (h : OutB X H (bnd o k) QB) (hp : ∀ b H', Same H H' → OutB X H' (k b) QB → P b H') : OutB X H o P := by
 match o, h with
 | some (.exc _), h => exact h
 | some (.ok d), h => exact fun H1 e => hp d H1 e (OutB.mono e h)
theorem OutB.bindS {o : Option (Rs Bool)} {k : Bool → Option Fl} {P : Bool → Hp → Prop} (h : OutS X H (cT o k) D) (hp : ∀ b H', Same H H' → OutS X H' (k b) D → P b H') : OutB X H o P := by
 match o, h with
 | some (.exc _), h => exact h
 | some (.ok d), h => exact fun H1 e => hp d H1 e (OutS.mono e h)
theorem OutA.bind {o : Option (Rs (List Dv))} {k : List Dv → Option (Rs Dv)} {P : List V → Hp → Prop} (h : Out X H (bnd o k) Q) (hp : ∀ ds vs H', Same H H' → Reps X.K H' ds vs → Out X H' (k ds) Q → P vs H') : OutA X H o P := by
 match o, h with
 | some (.exc _), h => exact h
 | some (.ok d), h => exact fun v H1 e r => hp d v H1 e r (Out.mono e h)
theorem OutA.bindA {o : Option (Rs (List Dv))} {k : List Dv → Option (Rs (List Dv))} {P : List V → Hp → Prop} (h : OutA X H (bnd o k) QA) (hp : ∀ ds vs H', Same H H' → Reps X.K H' ds vs → OutA X H' (k ds) QA → P vs H') : OutA X H o P := by
 match o, h with
 | some (.exc _), h => exact h
 | some (.ok d), h => exact fun v H1 e r => hp d v H1 e r (OutA.mono e h)
end
abbrev FnE := Ev → Option (Rs Dv)
abbrev FnB := Ev → Option (Rs Bool)
abbrev FnA := Ev → Option (Rs (List Dv))
abbrev FnS := Ev → Option Fl
def tF (X : Cx) (f : FnE) : TE := fun σ H Q => ∃ ρ, Envs X.K H σ ρ ∧ Out X H (f ρ) Q
def tT (X : Cx) (f : FnB) : TT := fun σ H Q => ∃ ρ, Envs X.K H σ ρ ∧ OutB X H (f ρ) Q
def tA (X : Cx) (f : FnA) : TA := fun σ H Q => ∃ ρ, Envs X.K H σ ρ ∧ OutA X H (f ρ) Q
def tS (X : Cx) (f : FnS) : TS := fun D σ H => ∃ ρ, Envs X.K H σ ρ ∧ OutS X H (f ρ) D
structure FE (X : Cx) (e : Expr) (f : FnE) : Prop where
 h : PE X e (tF X f)
structure FT (X : Cx) (e : Expr) (f : FnB) : Prop where
 h : PT X e (tT X f)
structure FW (X : Cx) (e : Expr) (f : FnB) : Prop where
 h : PW X e (tT X f)
structure FA (X : Cx) (es : List Expr) (f : FnA) : Prop where
 h : PA X es (tA X f)
structure FS (X : Cx) (st : Stmt) (f : FnS) : Prop where
 h : PS X st (tS X f)
structure FSs (X : Cx) (st : List Stmt) (f : FnS) : Prop where
 h : PSs X st (tS X f)
section
variable {X : Cx} {a b c e : Expr} {es : List Expr} {fa fb fc : FnE} {pos : Pos}
theorem bu {t : TE} {f : FnE} (h : PE X e t) (w : ∀ σ H Q ρ, Envs X.K H σ ρ → Out X H (f ρ) Q → t σ H Q) : FE X e f :=
 ⟨fun pins s σ H Q I ⟨ρ, E, o⟩ => h pins s σ H Q I (w σ H Q ρ E o)⟩
theorem vJ {t : TT} {f : FnB} (h : PT X e t) (w : ∀ σ H Q ρ, Envs X.K H σ ρ → OutB X H (f ρ) Q → t σ H Q) : FT X e f :=
 ⟨fun pins s σ H Q I ⟨ρ, E, o⟩ => h pins s σ H Q I (w σ H Q ρ E o)⟩
theorem yo {t : TT} {f : FnB} (h : PW X e t) (w : ∀ σ H Q ρ, Envs X.K H σ ρ → OutB X H (f ρ) Q → t σ H Q) : FW X e f :=
 ⟨fun wh pins s σ H Q I ⟨ρ, E, o⟩ => h wh pins s σ H Q I (w σ H Q ρ E o)⟩
theorem oa {st : Stmt} {t : TS} {f : FnS} (h : PS X st t) (w : ∀ D σ H ρ, Envs X.K H σ ρ → OutS X H (f ρ) D → t D σ H) : FS X st f :=
 ⟨fun pins s σ H D I ⟨ρ, E, o⟩ => h pins s σ H D I (w D σ H ρ E o)⟩
theorem uG {st : List Stmt} {t : TS} {f : FnS} (h : PSs X st t) (w : ∀ D σ H ρ, Envs X.K H σ ρ → OutS X H (f ρ) D → t D σ H) : FSs X st f :=
 ⟨fun pins s σ H D I ⟨ρ, E, o⟩ => h pins s σ H D I (w D σ H ρ E o)⟩
theorem FW.ft {f : FnB} (h : FW X e f) : FT X e f := ⟨h.h _⟩
def ab (i : Nat) : FnE := fun ρ => match ρ[i]? with
 | some (some d) => some (.ok d)
 | _ => none
def fC (d : Dv) : FnE := fun _ => some (.ok d)
theorem yp (i : Nat) (h : PE X e (xP i)) : FE X e (ab i) := bu h fun σ H Q ρ E o => by
 unfold ab at o
 split at o
 · rename_i d hd
   obtain ⟨v, h1, h2⟩ := E.at' i d hd
   exact ⟨v, h1, o v H (.refl H) h2⟩
 · exact o.elim
theorem glb {x : Str} (h : X.env.kindOf x = some .globalImplicit) : Gl X x := h
theorem BN (i : Nat) {x : Str} (hN : X.N[i]? = some x := by kernel_rfl) (hv : X.env.scope.names.lookup x = some .local := by kernel_rfl) (hd : (x == ("__debug__" : Str)) = false := by kernel_rfl) (hcd : (x == ("__classdict__" : Str)) = false := by kernel_rfl) : FE X (.Name x pos) (ab i) := yp i (oV hN (.inl hv) hd hcd)
theorem BO (i : Nat) {x : Str} (hN : X.N[i]? = some x := by kernel_rfl) (hv : X.env.scope.names.lookup x = some .cell := by kernel_rfl) (hd : (x == ("__debug__" : Str)) = false := by kernel_rfl) (hcd : (x == ("__classdict__" : Str)) = false := by kernel_rfl) : FE X (.Name x pos) (ab i) := yp i (oV hN (.inr (.inl hv)) hd hcd)
theorem xC {d : Dv} {v : V} (h : PE X e (tC v)) (r : ∀ K H, Rep K H d v) : FE X e (fC d) := bu h fun _ H _ _ _ o => o v H (.refl H) (r X.K H)
theorem yq {i j} : FE X (.Constant (.int i) j pos) (fC (.int i)) := xC xQ fun _ _ => rfl
theorem BP {b j} : FE X (.Constant (.bool b) j pos) (fC (.bl b)) := xC Bo fun _ _ => rfl
theorem yr {j} : FE X (.Constant .none j pos) (fC .non) := xC xR fun _ _ => rfl
theorem yt {x j} : FE X (.Constant (.str x) j pos) (fC (.str x)) := xC xS fun _ _ => rfl
theorem vK {x : Str} {i : Int} {t : Tok} (hg : Gl X x) (hm : X.mg x = some (.int i t)) (hd : (x == ("__debug__" : Str)) = false := by kernel_rfl) : FE X (.Name x pos) (fC (.int i)) := xC (oW (v := .int i) hg hm ⟨t, rfl⟩ hd) fun _ _ => rfl
theorem vL {x : Str} {i : Str} {t : Tok} (hg : Gl X x) (hm : X.mg x = some (.str i t)) (hd : (x == ("__debug__" : Str)) = false := by kernel_rfl) : FE X (.Name x pos) (fC (.str i)) := xC (oW (v := .str i) hg hm ⟨t, rfl⟩ hd) fun _ _ => rfl
def f2 (g : Dv → Dv → Option (Rs Dv)) (fa fb : FnE) : FnE := fun ρ => bnd (fa ρ) fun x => bnd (fb ρ) fun y => g x y
def GOp (X : Cx) (r : R2) (g : Dv → Dv → Option (Rs Dv)) : Prop := ∀ dx dy x y H Q, Rep X.K H dx x → Rep X.K H dy y → Out X H (g dx dy) Q → r x y H Q
theorem two {r : R2} {g : Dv → Dv → Option (Rs Dv)} (hg : GOp X r g) {σ : L2.St} {H : Hp} {Q : VK} {ρ : Ev} (E : Envs X.K H σ ρ) (o : Out X H (f2 g fa fb ρ) Q) : tOp r (tF X fa) (tF X fb) σ H Q :=
 ⟨ρ, E, Out.bind o fun dx x H1 e1 rx o1 => ⟨ρ, E.mono e1, Out.bind o1 fun dy y H2 e2 ry o2 => hg dx dy x y H2 Q (Rep.mono e2 dx x rx) ry o2⟩⟩
theorem og {op : Operator} {r : R2} {g : Dv → Dv → Option (Rs Dv)} (ho : OpR X (binaryOp op) r) (hg : GOp X r g) (ha : FE X a fa) (hb : FE X b fb) : FE X (.BinOp a op b pos) (f2 g fa fb) :=
 bu (Bz ho ha.h hb.h) fun _ _ _ _ E o => two hg E o
theorem ie {op : CmpOp} {r : R2} {g : Dv → Dv → Option (Rs Dv)} (ho : OpR X (compareOp op) r) (hg : GOp X r g) (ha : FE X a fa) (hb : FE X b fb) (hm : behindInMarks op b = false) : FE X (.Compare a [op] [b] pos) (f2 g fa fb) :=
 bu (vx ho ha.h hb.h hm) fun _ _ _ _ E o => two hg E o
def toB : Dv → Option (Rs Bool)
 | .bl b => some (.ok b)
 | _ => none
def fB (f : FnE) : FnB := fun ρ => bnd (f ρ) toB
theorem mL {H : Hp} {d : Dv} {v : V} {QB : Bool → Hp → Prop} (r : Rep X.K H d v) (o : OutB X H (toB d) QB) : ∃ k, v = .bl k ∧ QB k H := by
 cases d with
 | bl b => exact ⟨b, r, o H (.refl H)⟩
 | _ => exact o.elim
theorem dz {op : CmpOp} {r : R2} {g : Dv → Dv → Option (Rs Dv)} (ho : OpR X (compareOp op) r) (hg : GOp X r g) (ha : FE X a fa) (hb : FE X b fb) (hm : behindInMarks op b = false) : FT X (.Compare a [op] [b] pos) (fB (f2 g fa fb)) :=
 vJ (vy ho ha.h hb.h hm) fun σ H Q ρ E o => by
  show tOp r (tF X fa) (tF X fb) σ H _
  refine two hg E ?_
  exact Out.bindB o fun d v H' e r o' => mL r o'
theorem yu (ha : FE X a fa) (he : ∀ whole, isTrue a X.env whole = (do let v ← whole; standAt a.pos; holding [v] (truthy v)) := by intro _; kernel_rfl) : FT X a (fB fa) :=
 vJ (xT ha.h he) fun σ H Q ρ E o => ⟨ρ, E, Out.bindB o fun d v H' e r o' => mL r o'⟩
def A0 (f g : FnB) : FnB := fun ρ => bnd (f ρ) fun k => if k then g ρ else some (.ok false)
def bOr (f g : FnB) : FnB := fun ρ => bnd (f ρ) fun k => if k then some (.ok true) else g ρ
def dA (f : FnB) : FnB := fun ρ => bnd (f ρ) fun k => some (.ok (!k))
variable {ga gb : FnB} {rest : List Expr}
theorem vM (ha : FT X a ga) : FW X (.BoolOp .And [a] pos) ga := ⟨vt ha.h⟩
theorem yw (ha : FT X a ga) : FW X (.BoolOp .Or [a] pos) ga := ⟨xU ha.h⟩
theorem uH (ha : FT X a ga) (hb : FW X (.BoolOp .And (b :: rest) pos) gb) : FW X (.BoolOp .And (a :: b :: rest) pos) (A0 ga gb) :=
 yo (xV ha.h hb.h) fun σ H Q ρ E o => ⟨ρ, E, OutB.bindB o fun k H1 e o' => by
  cases k with
  | true => exact vI ⟨ρ, E.mono e, o'⟩
  | false => exact vH (o' H1 (.refl H1))⟩
theorem yx (ha : FT X a ga) (hb : FW X (.BoolOp .Or (b :: rest) pos) gb) : FW X (.BoolOp .Or (a :: b :: rest) pos) (bOr ga gb) :=
 yo (Bp ha.h hb.h) fun σ H Q ρ E o => ⟨ρ, E, OutB.bindB o fun k H1 e o' => by
  cases k with
  | true => exact vI (o' H1 (.refl H1))
  | false => exact vH ⟨ρ, E.mono e, o'⟩⟩
theorem yy (ha : FT X a ga) : FT X (.UnaryOp .Not a pos) (dA ga) :=
 vJ (xW ha.h) fun σ H Q ρ E o => ⟨ρ, E, OutB.bindB o fun k H1 e o' => o' H1 (.refl H1)⟩
def iZ (f g : FnE) : FnE := fun ρ => bnd (f ρ) fun x => bnd (toB x) fun k => if k then g ρ else some (.ok (.bl false))
def vOr (f g : FnE) : FnE := fun ρ => bnd (f ρ) fun x => bnd (toB x) fun k => if k then some (.ok (.bl true)) else g ρ
def xD (f : FnE) : FnE := fun ρ => bnd (f ρ) fun x => bnd (toB x) fun k => some (.ok (.bl (!k)))
theorem lH {H : Hp} {d : Dv} {v : V} {k : Bool → Option (Rs Dv)} {Q : VK} (r : Rep X.K H d v) (o : Out X H (bnd (toB d) k) Q) : ∃ b, v = .bl b ∧ Out X H (k b) Q := by
 cases d with
 | bl b => exact ⟨b, r, o⟩
 | _ => exact o.elim
theorem yz {op} (ha : FE X a fa) : FE X (.BoolOp op [a] pos) fa := ⟨xX ha.h⟩
theorem yA (ha : FE X a fa) (hb : FE X (.BoolOp .And (b :: rest) pos) fb) : FE X (.BoolOp .And (a :: b :: rest) pos) (iZ fa fb) :=
 bu (xY ha.h hb.h) fun σ H Q ρ E o => ⟨ρ, E, Out.bind o fun d v H1 e r o' => by
  obtain ⟨k, rfl, o2⟩ := lH r o'
  refine ⟨k, rfl, ?_⟩
  cases k with
  | true => exact vI ⟨ρ, E.mono e, o2⟩
  | false => exact vH (o2 (.bl false) H1 (.refl H1) rfl)⟩
theorem BQ (ha : FE X a fa) (hb : FE X (.BoolOp .Or (b :: rest) pos) fb) : FE X (.BoolOp .Or (a :: b :: rest) pos) (vOr fa fb) :=
 bu (Bs ha.h hb.h) fun σ H Q ρ E o => ⟨ρ, E, Out.bind o fun d v H1 e r o' => by
  obtain ⟨k, rfl, o2⟩ := lH r o'
  refine ⟨k, rfl, ?_⟩
  cases k with
  | true => exact vI (o2 (.bl true) H1 (.refl H1) rfl)
  | false => exact vH ⟨ρ, E.mono e, o2⟩⟩
theorem yB (ha : FE X a fa) : FE X (.UnaryOp .Not a pos) (xD fa) :=
 bu (xZ ha.h) fun σ H Q ρ E o => ⟨ρ, E, Out.bind o fun d v H1 e r o' => by
  obtain ⟨k, rfl, o2⟩ := lH r o'
  exact ⟨k, rfl, o2 (.bl (!k)) H1 (.refl H1) rfl⟩⟩
def fIf (c : FnB) (f g : FnE) : FnE := fun ρ => bnd (c ρ) fun k => if k then f ρ else g ρ
theorem BR (hc : FT X c ga) (ha : FE X a fa) (hb : FE X b fb) : FE X (.IfExp c a b pos) (fIf ga fa fb) :=
 bu (sA hc.h ha.h hb.h) fun σ H Q ρ E o => ⟨ρ, E, OutB.bind o fun k H1 e o' => by
  cases k with
  | true => exact vI ⟨ρ, E.mono e, o'⟩
  | false => exact vH ⟨ρ, E.mono e, o'⟩⟩
def ag : FnA := fun _ => some (.ok [])
def aa (f : FnE) (g : FnA) : FnA := fun ρ => bnd (f ρ) fun x => bnd (g ρ) fun xs => some (.ok (x :: xs))
theorem yC {t : TA} {f : FnA} (h : PA X es t) (w : ∀ σ H Q ρ, Envs X.K H σ ρ → OutA X H (f ρ) Q → t σ H Q) : FA X es f :=
 ⟨fun pos pins s σ H Q I ⟨ρ, E, o⟩ => h pos pins s σ H Q I (w σ H Q ρ E o)⟩
theorem uI : FA X [] ag := yC uE fun _ H _ _ _ o => o [] H (.refl H) rfl
theorem pF {g : FnA} (ha : FE X e fa) (hr : FA X es g) (hs : starEach (e :: es) X.env = (false, eval e X.env) :: starEach es X.env := by kernel_rfl) : FA X (e :: es) (aa fa g) :=
 yC (lF ha.h hr.h hs) fun σ H Q ρ E o => ⟨ρ, E, Out.bindA o fun d v H1 e r o1 => ⟨ρ, E.mono e, OutA.bindA o1 fun ds vs H2 e2 rs o2 => o2 (v :: vs) H2 (.refl H2) ⟨v, vs, rfl, Rep.mono e2 d v r, rs⟩⟩⟩
def fG (g : FnA) : FnE := fun ρ => bnd (g ρ) fun ds => if ds.length ≤ 100000 then some (.ok (.lst ds)) else none
def dh (g : FnA) : FnE := fun ρ => bnd (g ρ) fun ds => if ds.length ≤ 100000 then some (.ok (.tup ds)) else none
theorem aY {n : Nat} (h : n ≤ 100000) : n ≤ sizeLine := Nat.le_trans h (by rw [sizeLine_eq]; decide)
theorem yD {g : FnA} (h : FA X es g) : FE X (.List es pos) (fG g) :=
 bu (uF h.h) fun σ H Q ρ E o => ⟨ρ, E, OutA.bind o fun ds vs H1 e rs o1 => by
  split at o1
  · rename_i hl
    refine ⟨by rw [rs.length]; exact aY hl, fun p hp => o1 (.ref p) _ (aj hp _) ⟨p, vs, rfl, ai, Reps.mono (aj hp _) _ _ rs⟩⟩
  · exact o1.elim⟩
theorem yE {g : FnA} {k} (h : FA X es g) : FE X (.Tuple es k pos) (dh g) :=
 bu (ye h.h) fun σ H Q ρ E o => ⟨ρ, E, OutA.bind o fun ds vs H1 e rs o1 => by
  split at o1
  · rename_i hl
    refine ⟨by rw [rs.length]; exact aY hl, fun p hp => o1 (.ref p) _ (aj hp _) ⟨p, vs, rfl, ai, Reps.mono (aj hp _) _ _ rs⟩⟩
  · exact o1.elim⟩
variable {st : Stmt} {sts : List Stmt} {f g : FnS}
theorem vN : FSs X [] (fun ρ => some (.nx ρ)) := uG oX fun D σ H ρ E o => o σ H (.refl H) E
def aJ (f g : FnS) : FnS := fun ρ => sq (f ρ) g
theorem sJ (h1 : FS X st f) (h2 : FSs X sts g) : FSs X (st :: sts) (aJ f g) :=
 uG (iW h1.h h2.h) fun D σ H ρ E o => ⟨ρ, E, by
  unfold aJ at o
  match hf : f ρ with
  | none => rw [hf] at o; exact o.elim
  | some (.exc c) => rw [hf] at o; exact o
  | some (.rt d) => rw [hf] at o; exact o
  | some (.nx ρ') => rw [hf] at o; exact fun σ' H' e E' => ⟨ρ', E', OutS.mono e o⟩⟩
theorem vO (h1 : FS X st f) : FSs X [st] f := ⟨oY h1.h⟩
def aF (f : FnE) : FnS := fun ρ => cT (f ρ) fun d => some (.rt d)
theorem yF (he : FE X e fa) : FS X (.Return (some e) pos) (aF fa) :=
 oa (uA he.h) fun D σ H ρ E o => ⟨ρ, E, Out.bindS o fun d v H1 e r o1 => o1 v H1 (.refl H1) r⟩
def gp (f : FnE) : FnS := fun ρ => cT (f ρ) fun _ => some (.nx ρ)
theorem vP (he : FE X e fa) (hs : swapsWith e none pos.line X.env = pure false := by kernel_rfl) : FS X (.Expr e pos) (gp fa) :=
 oa (oZ he.h hs) fun D σ H ρ E o => ⟨ρ, E, Out.bindS o fun d v H1 e r o1 => o1 σ H1 (.refl H1) (E.mono e)⟩
def bF (i : Nat) (f : FnE) : FnS := fun ρ => cT (f ρ) fun d => some (.nx (ρ.set i (some d)))
theorem yG (i : Nat) {x : Str} {pos' : Pos} (hN : X.N.Nodup) (hi : X.N[i]? = some x) (hx : Loc X.env.scope x) (he : FE X e fa) (hs : swapsWith e (some (.Name x pos')) pos.line X.env = pure false := by kernel_rfl) (hf : X.fn x = true ∨ X.env.scope.names.lookup x = some .local := by first | exact .inl rfl | exact .inr rfl | assumption) :
 FS X (.Assign [.Name x pos'] e pos) (bF i fa) :=
 oa (o6 hN hi hx he.h hs hf) fun D σ H ρ E o => ⟨ρ, E, Out.bindS o fun d v H1 e r o1 => o1 _ H1 (.refl H1) ((E.mono e).set r)⟩
def bw (c : FnB) (f g : FnS) : FnS := fun ρ => cT (c ρ) fun k => if k then f ρ else g ρ
theorem BS {as bs : List Stmt} (hc : FT X c ga) (ha : FSs X as f) (hb : FSs X bs g) : FS X (.If c as bs pos) (bw ga f g) :=
 oa (x3 hc.h ha.h hb.h) fun D σ H ρ E o => ⟨ρ, E, OutB.bindS o fun k H1 e o1 => by
  cases k with
  | true => exact vI ⟨ρ, E.mono e, o1⟩
  | false => exact vH ⟨ρ, E.mono e, o1⟩⟩
def ig : FnS := fun _ => none
theorem sK : FS X st ig := oa sB fun _ _ _ _ _ o => o
end
def Its (z : Str) : It := ⟨fun i _ => i < z.cps.size, fun i H x H' => H' = H ∧ ∃ c, z.cps[i]? = some c ∧ x = .str ⟨#[c]⟩, fun i _ => i = z.cps.size⟩
theorem j3 {prog : Program} {w : World} {A : Around} (hh : A.handled = none) (I : Addr) (x : Str) (t : Tok) {ty : String} (hty : ty = "str_ascii_iterator" ∨ ty = "str_iterator") :
 Walks prog w A I [I] [I] x.cps.size (SignAt x) (fun i h => h.IsStrIter I ty x t i) := by
 rcases hty with rfl | rfl
 · exact Walks.strAscii hh I x t
 · exact Walks.strWide hh I x t
theorem sL {P : Program} {w : World} {K : PySem.W.Frag} {tg : Expr} (z : Str) (t : Tok) (it : Addr) {ty : String} (hty : ty = "str_ascii_iterator" ∨ ty = "str_iterator") : uB P w K tg (Its z) [it] it (fun i h => h.IsStrIter it ty z t i) where
 mem := by simp
 obj := fun i h st b hb => by
  have e : b = it := by simpa using hb
  subst e
  obtain ⟨o, e, c, d⟩ := st
  exact ⟨o, e, fun v z => by rw [d] at z; cases z⟩
 keep := fun i h h' st k => let ⟨o, ho, r⟩ := st; ⟨o, k it (by simp) o ho, r⟩
 item := by
  intro X hP hw hK hc i pins s σ H E I hf st hg
  subst hP hw hK
  obtain ⟨f0, f1, f2, f3, f4, f5⟩ := hf it (by simp)
  have W := j3 (prog := X.prog) (w := X.w) (I.ok.hd hc) it z t hty
  refine W.item i s _ _ hg st fun v h' tk hv st' kk => ?_
  obtain ⟨c, u, hc', rfl⟩ := hv
  have I1 : Inv X pins σ H { s with heap := h', toks := tk } := I.turned (fun b o hb e => kk b o (by simpa using hb) e) f0 f1 f3 f4 f5
  obtain ⟨o, e, c', d⟩ := id st'
  refine ⟨_, rfl, sC (s := { s with heap := h', toks := tk }) e c' d (by rcases hty with rfl | rfl <;> decide) ⟨.str ⟨#[c]⟩, H, I1, ⟨u, rfl⟩, ⟨rfl, c, hc', rfl⟩, st', fun b hb => (hf b hb).1⟩⟩
 done := by
  intro X hP hw hK hc i pins s σ H E I hf st hg
  subst hP hw hK
  obtain ⟨f0, f1, f2, f3, f4, f5⟩ := hf it (by simp)
  have W := j3 (prog := X.prog) (w := X.w) (I.ok.hd hc) it z t hty
  have hg' : i = z.cps.size := hg
  subst hg'
  exact W.done s _ _ st fun h' tk kk => ⟨rfl, I.turned (fun b o hb e => kk b o (by simpa using hb) e) f0 f1 f3 f4 f5⟩
 self := fun A i s Q E st h => by
  rcases hty with rfl | rfl
  · exact wpAny_pyIter_striter_ascii st h
  · exact wpAny_pyIter_striter_wide st h
structure Wk (K : PySem.W.Frag) (J : It) (ds : List Dv) (H0 : Hp) : Prop where
 go : ∀ i H, Same H0 H → i < ds.length → J.go i H
 stop : ∀ H, Same H0 H → J.stop ds.length H
 yld : ∀ i H x H', Same H0 H → i < ds.length → J.yld i H x H' → H' = H ∧ ∃ d, ds[i]? = some d ∧ Rep K H d x
def OutI (X : Cx) (H : Hp) (o : Option (Rs (List Dv))) (R : It → Hp → Prop) : Prop := match o with
 | none => False
 | some (.exc c) => XW X c H
 | some (.ok ds) => ∀ J H', Same H H' → Wk X.K J ds H' → R J H'
structure FI (X : Cx) (tg iter : Expr) (f : FnA) : Prop where
 h : PI X tg iter fun σ H R => ∃ ρ, Envs X.K H σ ρ ∧ OutI X H (f ρ) R
theorem OutI.mono {X : Cx} {H H' : Hp} {R : It → Hp → Prop} (e : Same H H') : ∀ {o : Option (Rs (List Dv))}, OutI X H o R → OutI X H' o R
 | none, h => h
 | some (.exc _), h => XW.mono h e
 | some (.ok _), h => fun v H1 e1 r => h v H1 (e.trans e1) r
def signs (z : Str) : List Dv := z.cps.toList.map fun c => .str ⟨#[c]⟩
def items : Dv → Option (Rs (List Dv))
 | .lst ds => some (.ok ds)
 | .tup ds => some (.ok ds)
 | .str z => some (.ok (signs z))
 | _ => none
def bG (f : FnE) : FnA := fun ρ => bnd (f ρ) items
theorem vQ {K : PySem.W.Frag} {H : Hp} {a : Addr} {xs : List V} {ds : List Dv} (h : H a = some (.lst xs)) (r : Reps K H ds xs) : Wk K (Itl K a) ds H where
 go := fun i H' e hi => by
  have hx : i < xs.length := by rw [r.length]; exact hi
  exact ⟨xs, xs[i], SqL.of (e _ _ h), by simp [hx]⟩
 stop := fun H' e => ⟨xs, SqL.of (e _ _ h), by rw [r.length]; exact Nat.le_refl _⟩
 yld := fun i H' x H2 e hi y => by
  obtain ⟨e2, y⟩ := y
  obtain ⟨d, h1, h2⟩ := Reps.get (Reps.mono e _ _ r) (y xs (SqL.of (e _ _ h)))
  exact ⟨e2, d, h1, h2⟩
theorem yH {K : PySem.W.Frag} {H : Hp} {a : Addr} {xs : List V} {ds : List Dv} (h : H a = some (.tup xs)) (r : Reps K H ds xs) : Wk K (Itt K a) ds H where
 go := fun i H' e hi => by
  have hx : i < xs.length := by rw [r.length]; exact hi
  exact ⟨xs, xs[i], SqT.of (e _ _ h), by simp [hx]⟩
 stop := fun H' e => ⟨xs, SqT.of (e _ _ h), by rw [r.length]; exact Nat.le_refl _⟩
 yld := fun i H' x H2 e hi y => by
  obtain ⟨e2, y⟩ := y
  obtain ⟨d, h1, h2⟩ := Reps.get (Reps.mono e _ _ r) (y xs (SqT.of (e _ _ h)))
  exact ⟨e2, d, h1, h2⟩
theorem yI {K : PySem.W.Frag} {H : Hp} {z : Str} : Wk K (Its z) (signs z) H where
 go := fun i H' e hi => by show i < z.cps.size; simpa [signs] using hi
 stop := fun H' e => by show (signs z).length = z.cps.size; simp [signs]
 yld := fun i H' x H2 e hi y => by
  obtain ⟨e2, c, hc, rfl⟩ := y
  refine ⟨e2, .str ⟨#[c]⟩, ?_, rfl⟩
  have hc' : z.cps.toList[i]? = some c := by simpa using hc
  rw [signs, List.getElem?_map, hc'] <;> rfl
def rng (lo : Int) : Nat → List Dv
 | 0 => []
 | n + 1 => .int lo :: rng (lo + 1) n
theorem di : ∀ (n : Nat) (lo : Int), (rng lo n).length = n
 | 0, _ => rfl
 | n + 1, lo => by show (rng (lo + 1) n).length + 1 = n + 1; rw [di]
theorem pG : ∀ (n : Nat) (lo : Int) (i : Nat), i < n → (rng lo n)[i]? = some (.int (lo + i))
 | 0, _, _, h => by omega
 | n + 1, lo, 0, _ => by simp [rng]
 | n + 1, lo, i + 1, h => by
  have q := pG n (lo + 1) i (by omega)
  show (Dv.int lo :: rng (lo + 1) n)[i + 1]? = _
  rw [List.getElem?_cons_succ, q]
  congr 2
  omega
theorem mM {K : PySem.W.Frag} {H : Hp} {lo : Int} {n : Nat} : Wk K (Itr lo n) (rng lo n) H where
 go := fun i H' e hi => by rw [di] at hi; exact hi
 stop := fun H' e => by show n ≤ (rng lo n).length; rw [di]; exact Nat.le_refl _
 yld := fun i H' x H2 e hi y => by
  obtain ⟨e2, rfl⟩ := y
  rw [di] at hi
  exact ⟨e2, _, pG n lo i hi, rfl⟩
section
variable {X : Cx} {tg l a b : Expr} {fl : FnE} {pos p : Pos}
theorem yJ (hl : FE X l fl) : FI X tg l (bG fl) := by
 constructor
 intro pins s σ H R I h
 obtain ⟨ρ, E, o⟩ := h
 have key : Out X H (fl ρ) fun x H1 => ∃ d, Rep X.K H1 d x ∧ OutI X H1 (items d) R := by
  unfold bG at o
  match hf : fl ρ, o with
  | some (.exc c), o => exact o
  | some (.ok d), o => exact fun v H1 e r => ⟨d, r, OutI.mono e o⟩
  | none, o => exact o
 refine thn (hl.h pins s σ H _ I ⟨ρ, E, key⟩) fun v s1 ⟨x, H1, I1, r1, d, rd, q⟩ => ?_
 have fin : ∀ (o : Obj) (tn : Nat → Heap → Prop) (J : It) (ds : List Dv), uB X.prog X.w X.K tg J [s1.heap.objs.size] s1.heap.objs.size tn → tn 0 (s1.heap.push o) → Wk X.K J ds H1 → (∀ J H', Same H1 H' → Wk X.K J ds H' → R J H') →
  PIE X pins σ tg R (.ref s1.heap.objs.size) { s1 with heap := s1.heap.push o } := fun o tn J ds T t0 w q => by
  refine ⟨s1.heap.objs.size, [s1.heap.objs.size], tn, J, H1, rfl, I1.kept (t' := s1.toks) fun b o e => Heap.get?_push_of_some _ e, T, t0, fun b hb => ?_, q J H1 (.refl H1) w⟩
  have e : b = s1.heap.objs.size := by simpa using hb
  subst e
  exact I1.fpOk (Nat.le_refl _) (I1.hok.fresh (Nat.le_refl _))
 cases d with
 | lst ds =>
  obtain ⟨a, xs, rfl, h1, h2⟩ := rd.lstE
  cases r1
  obtain ⟨its, rv, p, hz⟩ := I1.list (SqL.of h1)
  exact wpAny_pyIter_list p.isList (fin _ _ (Itl X.K a) ds (o7 a _) ⟨_, Heap.get?_push_size _ rfl, rfl, rfl⟩ (vQ h1 h2) q)
 | tup ds =>
  obtain ⟨a, xs, rfl, h1, h2⟩ := rd.tupE
  cases r1
  obtain ⟨its, rv, p, hz⟩ := I1.tuple (SqT.of h1)
  exact wpAny_pyIter_tuple (show s1.heap.IsTuple a its.toArray from p) (fin _ _ (Itt X.K a) ds (nW a _) ⟨_, Heap.get?_push_size _ rfl, rfl, rfl⟩ (yH h1 h2) q)
 | str z =>
  cases (show x = .str z from rd)
  obtain ⟨t, rfl⟩ := r1
  have hty : strIterType z = "str_ascii_iterator" ∨ strIterType z = "str_iterator" := by
   unfold strIterType
   split
   · exact .inl rfl
   · exact .inr rfl
  exact wpAny_pyIter_strU (fin _ _ (Its z) (signs z) (sL z t _ hty) ⟨_, Heap.get?_push_size _ rfl, rfl, rfl⟩ yI q)
 | _ => exact q.elim
def j4 : List Dv → Option (Rs (List Dv))
 | [.int j] => if -(2 ^ 62) ≤ j ∧ j < 2 ^ 62 then some (.ok (rng 0 j.toNat)) else none
 | _ => none
def sn : List Dv → Option (Rs (List Dv))
 | [.int i, .int j] => if -(2 ^ 62) ≤ i ∧ i < 2 ^ 62 ∧ -(2 ^ 62) ≤ j ∧ j < 2 ^ 62 then some (.ok (rng i (j - i).toNat)) else none
 | _ => none
theorem ii {H : Hp} {R : It → Hp → Prop} {o : Option (Rs (List Dv))} {k : List Dv → Option (Rs (List Dv))} {P : List V → Hp → Prop} (h : OutI X H (bnd o k) R) (hp : ∀ ds vs H', Same H H' → Reps X.K H' ds vs → OutI X H' (k ds) R → P vs H') : OutA X H o P := by
 match o, h with
 | some (.exc _), h => exact h
 | some (.ok d), h => exact fun v H1 e r => hp d v H1 e r (OutI.mono e h)
theorem pH {ga : FnA} (hg : Gl X "range") (hm : X.mg "range" = none) (ha : FA X [a] ga) (hs : starEach [a] X.env = [(false, eval a X.env)] := by kernel_rfl) : FI X tg (.Call (.Name "range" p) [a] [] pos) (fun ρ => bnd (ga ρ) j4) := by
 constructor
 intro pins s σ H R I h
 obtain ⟨ρ, E, o⟩ := h
 refine o8 hg hm ha.h hs pins s σ H R I ⟨ρ, E, ii o fun ds vs H' e rs o1 => ?_⟩
 unfold j4 at o1
 split at o1
 · rename_i j
   split at o1
   · rename_i hj
     obtain ⟨v, us, rfl, r, t⟩ : ∃ v us, vs = v :: us ∧ Rep X.K H' (.int j) v ∧ Reps X.K H' [] us := rs
     cases (show us = [] from t)
     cases (show v = .int j from r)
     exact ⟨j, rfl, hj.1, hj.2, o1 _ H' (.refl H') mM⟩
   · exact o1.elim
 · exact o1.elim
theorem pI {ga : FnA} (hg : Gl X "range") (hm : X.mg "range" = none) (ha : FA X [a, b] ga) (hs : starEach [a, b] X.env = [(false, eval a X.env), (false, eval b X.env)] := by kernel_rfl) (hs2 : starEach [b] X.env = [(false, eval b X.env)] := by kernel_rfl) :
 FI X tg (.Call (.Name "range" p) [a, b] [] pos) (fun ρ => bnd (ga ρ) sn) := by
 constructor
 intro pins s σ H R I h
 obtain ⟨ρ, E, o⟩ := h
 refine o9 hg hm ha.h hs hs2 pins s σ H R I ⟨ρ, E, ii o fun ds vs H' e rs o1 => ?_⟩
 unfold sn at o1
 split at o1
 · rename_i i j
   split at o1
   · rename_i hj
     obtain ⟨v, us, rfl, r, t⟩ : ∃ v us, vs = v :: us ∧ Rep X.K H' (.int i) v ∧ Reps X.K H' [.int j] us := rs
     obtain ⟨v2, us2, rfl, r2, t2⟩ : ∃ v us', us = v :: us' ∧ Rep X.K H' (.int j) v ∧ Reps X.K H' [] us' := t
     cases (show us2 = [] from t2)
     cases (show v = .int i from r)
     cases (show v2 = .int j from r2)
     exact ⟨i, j, rfl, hj, o1 _ H' (.refl H') mM⟩
   · exact o1.elim
 · exact o1.elim
end
def ei (i : Nat) (js : List Nat) (body : FnS) : List Dv → Ev → Option Fl
 | [], ρ => some (.nx (fgt js ρ))
 | d :: ds, ρ => match body ((fgt js ρ).set i (some d)) with
  | some (.nx ρ') => ei i js body ds ρ'
  | o => o
def mN (i : Nat) (js : List Nat) (src : FnA) (body : FnS) : FnS := fun ρ => cT (src ρ) fun ds => ei i js body ds ρ
theorem gq {α : Type} {ds : List α} {i : Nat} {d : α} (h : ds[i]? = some d) : ds.drop i = d :: ds.drop (i + 1) := by
 obtain ⟨hi, e⟩ := List.getElem?_eq_some_iff.mp h
 rw [List.drop_eq_getElem_cons hi, e]
theorem yK {X : Cx} {tg iter : Expr} {body : List Stmt} {pos : Pos} {src : FnA} {fb : FnS} (i : Nat) (js : List Nat) (hp : PassesOwn (model X.prog X.w) X.A X.env X.xe) (hc : X.calm = true) (hi : FI X tg iter src) (hg : PG X tg (ia i)) (hb : FSs X body fb)
 (hs : ∀ x, foldedSetIterable iter X.env x = pure x := by intro _; kernel_rfl) : FS X (.For tg iter body [] pos) (mN i js src fb) := by
 refine oa (uC hp hc hi.h hg hb.h hs) fun D σ H ρ E o => ⟨ρ, E, ?_⟩
 unfold mN at o
 match hf : src ρ, o with
 | none, o => exact o
 | some (.exc c), o => exact o
 | some (.ok ds), o =>
  intro J H1 e1 wk
  have o1 : OutS X H1 (ei i js fb ds ρ) D := OutS.mono e1 o
  refine ⟨fun n m σ' H' => m = ds.length - n ∧ n ≤ ds.length ∧ Same H1 H' ∧ ∃ ρ', Envs X.K H' σ' ρ' ∧ OutS X H' (ei i js fb (ds.drop n) ρ') D, ⟨ds.length, by simp, Nat.zero_le _, .refl H1, ρ, E.mono e1, by simpa using o1⟩, ?_⟩
  rintro n m σ' H' ⟨rfl, hn, e2, ρ', E', o'⟩
  by_cases hlt : n < ds.length
  · refine .inr ⟨wk.go n H' e2 hlt, fun σ2 H2 => Same H1 H2 ∧ ∃ ρ2, Envs X.K H2 σ2 ρ2 ∧ OutS X H2 (ei i js fb (ds.drop (n + 1)) ρ2) D, fun σ2 H2 ⟨e3, ρ2, E2, o2⟩ => ⟨ds.length - (n + 1), by omega, rfl, hlt, e3, ρ2, E2, o2⟩, fun x H2 y => ?_⟩
    obtain ⟨rfl, d, hd, rd⟩ := wk.yld n H' x H2 e2 hlt y
    rw [gq hd] at o'
    show tS X fb _ _ _
    refine ⟨(fgt js ρ').set i (some d), (Envs.fgt js E').set rd, ?_⟩
    unfold ei at o'
    match hb' : fb ((fgt js ρ').set i (some d)) with
    | none => rw [hb'] at o'; exact o'
    | some (.exc c) => rw [hb'] at o'; exact o'
    | some (.rt r) => rw [hb'] at o'; exact o'
    | some (.nx ρ2) => rw [hb'] at o'; exact fun σ2 H3 e3 E3 => ⟨e2.trans e3, ρ2, E3, OutS.mono e3 o'⟩
  · have hn' : n = ds.length := by omega
    subst hn'
    rw [List.drop_length] at o'
    exact .inl ⟨wk.stop H' e2, o' σ' H' (.refl H') (Envs.fgt js E')⟩
def spF (K : PySem.W.Frag) (F : List Dv → Option (Rs Dv)) (n : Nat) : Sp := fun vs H Q _ => ∃ ds, Reps K H ds vs ∧ ds.length = n ∧ match F ds with
 | some (.ok d) => ∀ v H', Same H H' → Rep K H' d v → Q v H'
 | _ => False
def ah (F : List Dv → Option (Rs Dv)) (n : Nat) (g : FnA) : FnE := fun ρ => bnd (g ρ) fun ds => if ds.length = n then (match F ds with | some (.ok d) => some (.ok d) | _ => none) else none
section
variable {X : Cx} {k n : Nat} {f : Addr} {fd : FuncData} {ps : List Str} {x : Str} {p pos : Pos} {e : Expr} {es : List Expr} {F : List Dv → Option (Rs Dv)} {g : FnA}
theorem vR (G : FnOk X.prog X.w X.K X.mg X.base CX0 k f fd ps (spF X.K F n)) (hr : Room k X.A) (hg : Gl X x) (hm : X.mg x = some (.ref f)) (hk : PySem.W.keepIn X.K (.ref f) = true) (hb : Binds X.K fd ps [])
 (ha : FA X (e :: es) g) (hdb : (x == ("__debug__" : Str)) = false := by kernel_rfl) (he : starEach (e :: es) X.env = (false, eval e X.env) :: starEach es X.env := by kernel_rfl) (hpl : (backTo pos (starEach es X.env)).any (·.1) = false := by kernel_rfl) :
 FE X (.Call (.Name x p) (e :: es) [] pos) (ah F n g) :=
 bu (vB G hr hg hm hk hb .nil BL ha.h hdb he hpl) fun σ H Q ρ E o => ⟨ρ, E, OutA.bind o fun ds vs H' e rs o1 => by
  show spF X.K F n (vs ++ []) H' Q E0
  rw [List.append_nil]
  split at o1
  · rename_i hl
    refine ⟨ds, rs, hl, ?_⟩
    match hF : F ds with
    | some (.ok d) => rw [hF] at o1; exact o1
    | some (.exc c) => rw [hF] at o1; exact o1
    | none => rw [hF] at o1; exact o1
  · exact o1.elim⟩
def Has (P : Program) (w : World) (K : PySem.W.Frag) (mg : Str → Option Value) (base : Heap) (x : Str) (k : Nat) (ps : List Str) (F : List Dv → Option (Rs Dv)) : Prop :=
 ∃ f fd, FnOk P w K mg base CX0 k f fd ps (spF K F ps.length) ∧ mg x = some (.ref f) ∧ PySem.W.keepIn K (.ref f) = true ∧ Binds K fd ps []
theorem sM {k' : Nat} (k : Nat) (ps : List Str) (F : List Dv → Option (Rs Dv)) (h : Has X.prog X.w X.K X.mg X.base x k ps F) (hr : Room k' X.A) (hk : k ≤ k') (hg : Gl X x) (ha : FA X (e :: es) g) (hn : n = ps.length := by kernel_rfl) (hdb : (x == ("__debug__" : Str)) = false := by kernel_rfl)
 (he : starEach (e :: es) X.env = (false, eval e X.env) :: starEach es X.env := by kernel_rfl) (hpl : (backTo pos (starEach es X.env)).any (·.1) = false := by kernel_rfl) :
 FE X (.Call (.Name x p) (e :: es) [] pos) (ah F n g) := by
 subst hn
 obtain ⟨f, fd, G, hm, hkp, hb⟩ := h
 exact vR (G.mono hk) hr hg hm hkp hb ha hdb he hpl
def aZ (m : Nat) (fb : FnS) : List Dv → Option (Rs Dv) := fun ds => match fb (ds.map some ++ List.replicate (m - ds.length) none) with
 | some (.nx _) => some (.ok .non)
 | some (.rt d) => some (.ok d)
 | _ => none
theorem oh {K : PySem.W.Frag} {H : Hp} {N : List Str} {ds : List Dv} {vs : List V} (r : Reps K H ds vs) : Envs K H (L2.start N vs) (ds.map some ++ List.replicate (N.length - ds.length) none) := by
 have hl := r.length
 refine ⟨by unfold L2.start; rw [List.length_append, List.length_append, List.length_map, List.length_map, List.length_replicate, List.length_replicate, hl], fun i d h => ?_⟩
 by_cases hi : i < ds.length
 · rw [List.getElem?_append_left (by simpa using hi), List.getElem?_map] at h
   cases hd : ds[i]? with
   | none => rw [hd] at h; cases h
   | some d' =>
    rw [hd] at h
    have h' : some (some d') = some (some d) := h
    injection h' with h'
    injection h' with h'
    subst h'
    obtain ⟨v, h1, h2⟩ := r.get' hd
    refine ⟨v, ?_, h2⟩
    unfold L2.start
    rw [List.getElem?_append_left (by rw [List.length_map, hl]; exact hi), List.getElem?_map, h1] <;> rfl
 · rw [List.getElem?_append_right (by simpa using hi), List.getElem?_replicate] at h
   split at h <;> cases h
theorem BT {P : Program} {w : World} {K : PySem.W.Frag} {mg : Str → Option Value} {base : Heap} {qual : Str} {st : Stmt} {N : List Str} {fb : FnS} (Fn : Fun K x qual st f fd) (S : eS N ps (aE st))
 (hb : ∀ (cdv : Value) (A : Around) (outer : List Env) (s : Shared) (H : Hp) (E : XK), Room k (A.deeper (envOfC qual (aE st) s.heap.objs.size f cdv)) → FSs (sE CX0 P w K mg base N qual (aE st) f cdv A outer s H E).nox (cg st) fb) :
 FnOk P w K mg base CX0 (k + 1) f fd ps (spF K (aZ N.length fb) ps.length) := by
 refine Fn.ok S (fun vs H Q E h => ?_) (fun cdv A outer s H vs Q E hr h => ?_)
 · obtain ⟨ds, r, hl, _⟩ := h
   rw [r.length, hl]
 · obtain ⟨ds, r, hl, q⟩ := h
   refine ⟨_, (hb cdv A outer s H E hr).h, ds.map some ++ List.replicate (N.length - ds.length) none, oh r, ?_⟩
   unfold aZ at q
   match hf : fb (ds.map some ++ List.replicate (N.length - ds.length) none) with
   | none => rw [hf] at q; exact q.elim
   | some (.exc c) => rw [hf] at q; exact q.elim
   | some (.rt d) => rw [hf] at q; exact fun v H' e r' => q v H' e r'
   | some (.nx ρ) => rw [hf] at q; exact fun σ' H' e _ => q .non H' e rfl
end
theorem uJ {k : Nat} {f : Addr} {fd : FuncData} {x : Str} {P : Program} {w : World} {K : PySem.W.Frag} {mg : Str → Option Value} {base : Heap} {qual : Str} {st : Stmt} {F : List Dv → Option (Rs Dv)} {n : Nat} (N ps : List Str) (fb : FnS) (hF : F = aZ N.length fb) (hn : n = ps.length)
 (Fn : Fun K x qual st f fd) (S : eS N ps (aE st))
 (hb : ∀ (cdv : Value) (A : Around) (outer : List Env) (s : Shared) (H : Hp) (E : XK), Room k (A.deeper (envOfC qual (aE st) s.heap.objs.size f cdv)) → FSs (sE CX0 P w K mg base N qual (aE st) f cdv A outer s H E).nox (cg st) fb) :
 FnOk P w K mg base CX0 (k + 1) f fd ps (spF K F n) := by
 subst hF hn
 exact BT Fn S hb
def ij (names : List (Str × NameKind)) (env : Env) (acc : List (Str × Addr)) : List (Str × Addr) := match names with
 | [] => acc
 | (n, k) :: r => ij r env (if k == .free then (n, (env.cells.lookup n).getD 0) :: acc else acc)
theorem ik {env : Env} {n : Str} {c : Addr} : ∀ (names : List (Str × NameKind)) (acc : List (Str × Addr)), (ij names env acc).lookup n = some c → acc.lookup n = some c ∨ ((n, NameKind.free) ∈ names ∧ c = (env.cells.lookup n).getD 0)
 | [], acc, h => .inl h
 | (m, k) :: r, acc, h => by
  rcases ik r _ h with q | ⟨q1, q2⟩
  · by_cases hk : k = .free
    · subst hk
      simp only [beq_self_eq_true, if_true] at q
      rw [List.lookup_cons] at q
      cases hm : n == m with
      | true =>
       rw [hm] at q
       have e : n = m := by simpa using hm
       subst e
       exact .inr ⟨List.mem_cons_self, (Option.some.inj q).symm⟩
      | false => rw [hm] at q; exact .inl q
    · have hb : (k == NameKind.free) = false := by simpa using hk
      rw [hb] at q
      exact .inl (by simpa using q)
  · exact .inr ⟨List.mem_cons_of_mem _ q1, q2⟩
theorem j5 {env : Env} {n : Str} : ∀ (names : List (Str × NameKind)) (acc : List (Str × Addr)), (acc.lookup n).isSome = true → ((ij names env acc).lookup n).isSome = true
 | [], acc, h => h
 | (m, k) :: r, acc, h => by
  refine j5 r _ ?_
  split
  · rw [List.lookup_cons]
    cases n == m with
    | true => rfl
    | false => exact h
  · exact h
theorem i4 {env : Env} {n : Str} : ∀ (names : List (Str × NameKind)) (acc : List (Str × Addr)), (n, NameKind.free) ∈ names → ((ij names env acc).lookup n).isSome = true
 | [], acc, h => by cases h
 | (m, k) :: r, acc, h => by
  rcases List.mem_cons.mp h with e | q
  · injection e with e1 e2
    subst e1
    subst e2
    refine j5 r _ ?_
    simp only [beq_self_eq_true, if_true, List.lookup_cons]
    rfl
  · exact i4 r _ q
theorem dj {β : Type} {n : Str} {k : β} : ∀ {l : List (Str × β)}, l.lookup n = some k → (n, k) ∈ l
 | [], h => by simp at h
 | (m, j) :: r, h => by
  rw [List.lookup_cons] at h
  cases hm : n == m with
  | true =>
   rw [hm] at h
   have e : n = m := by simpa using hm
   subst e
   have e2 : j = k := Option.some.inj h
   subst e2
   exact List.mem_cons_self
  | false => rw [hm] at h; exact List.mem_cons_of_mem _ (dj h)
def al (X : Cx) (N : List Str) (scope : Scope) (C : Addr) (s : Shared) (H : Hp) (fp : List Addr) : Cx :=
 { X with N := N, s₀ := s, H₀ := H, env := compEnvC scope (ij scope.names X.env []) C X.env, outer := X.stack, stack := X.stack, ex := fp, fn := fun _ => false, pn := [], xe := fun _ _ => False }
structure Dh (osc scope : Scope) (x : Str) (cs : List (Str × Nat)) (N : List Str) : Prop where
 kind : scope.kind = .function
 okind : osc.kind = .function
 cell : ∀ y ∈ scope.names, y.2 ≠ .cell
 names : ∀ y ∈ scope.names, y.2 = .local → scope.names.lookup y.1 = some .local
 tgt : scope.names.lookup x = some .local
 nd : (x :: cs.map (·.1)).Nodup
 free : ∀ y ∈ scope.names, y.2 = .free → osc.names.lookup y.1 = some .cell ∨ osc.names.lookup y.1 = some .free
 caps : ∀ c ∈ cs, N[c.2]? = some c.1 ∧ scope.names.lookup c.1 = some .free
theorem j6 {scope : Scope} {env : Env} {n : Str} {k : NameKind} (h : (relabel scope env).names.lookup n = some k) : (n, k) ∈ scope.names ∨ (k = .cell ∧ (n, NameKind.free) ∈ scope.names) := by
 have q := dj h
 unfold relabel at q
 obtain ⟨⟨m, j⟩, hm, e⟩ := List.mem_map.mp q
 dsimp only at e
 split at e
 · rename_i hc
   injection e with e1 e2
   subst e1
   have hj : j = .free := by
    rw [Bool.and_eq_true, Bool.and_eq_true] at hc
    simpa using hc.1.1
   subst hj
   exact .inr ⟨e2.symm, hm⟩
 · injection e with e1 e2
   subst e1
   subst e2
   exact .inl hm
theorem fH {env : Env} : ∀ {names : List (Str × NameKind)} {n : Str}, names.lookup n = some .free →
 (names.map fun (n, k) => if (k == NameKind.free && env.scope.kind == .function && env.kindOf n == some .cell) then (n, NameKind.cell) else (n, k)).lookup n = some .cell ∨
 (names.map fun (n, k) => if (k == NameKind.free && env.scope.kind == .function && env.kindOf n == some .cell) then (n, NameKind.cell) else (n, k)).lookup n = some .free
 | [], _, h => by simp at h
 | (m, k) :: r, n, h => by
  have ih := @fH env r n
  rw [List.lookup_cons] at h
  rw [List.map_cons]
  cases hm : n == m with
  | true =>
   rw [hm] at h
   have e2 : k = .free := Option.some.inj h
   subst e2
   by_cases hc : (NameKind.free == NameKind.free && env.scope.kind == .function && env.kindOf m == some .cell) = true
   · dsimp only
     rw [if_pos hc, List.lookup_cons, hm]
     exact .inl rfl
   · dsimp only
     rw [if_neg hc, List.lookup_cons, hm]
     exact .inr rfl
  | false =>
   rw [hm] at h
   dsimp only
   by_cases hc : (k == NameKind.free && env.scope.kind == .function && env.kindOf m == some .cell) = true
   · rw [if_pos hc, List.lookup_cons, hm]; exact ih h
   · rw [if_neg hc, List.lookup_cons, hm]; exact ih h
def sr (cs : List (Str × Nat)) (ρ : Ev) : Ev := none :: cs.map fun c => (ρ[c.2]?).join
section
variable {X : Cx} {pins : List (Addr × Obj)} {σ : L2.St} {H : Hp} {s : Shared}
end
def pJ (tst : Option FnB) (elt : FnE) (cap : Ev) : List Dv → Option (List Dv)
 | [] => some []
 | d :: ds =>
  let ρ := cap.set 0 (some d)
  match (match tst with | none => (some (.ok true) : Option (Rs Bool)) | some t => t ρ) with
  | some (.ok true) => (match elt ρ with
   | some (.ok y) => (match pJ tst elt cap ds with | some ys => some (y :: ys) | none => none)
   | _ => none)
  | some (.ok false) => pJ tst elt cap ds
  | _ => none
def aT (cs : List (Str × Nat)) (src : FnA) (tst : Option FnB) (elt : FnE) : FnE := fun ρ => bnd (src ρ) fun ds => match pJ tst elt (sr cs ρ) ds with
 | some ys => if ys.length ≤ 100000 ∧ ds.length ≤ 100000 then some (.ok (.lst ys)) else none
 | none => none
def LAt (h : Heap) (D : Addr) (its : List Value) : Prop := ∃ n, h.get? D = some { cls := .type "list", data := .seq its.toArray n }
theorem oi {P : Program} {w : World} {A : Around} {E : Value → Shared → Prop} {s : Shared} {D : Addr} {its : List Value} {u : Value} {Q : Value → Shared → Prop} (h : LAt s.heap D its) (hz : its.length ≤ 100000)
 (hQ : ∀ h', LAt h' D (its ++ [u]) → (∀ b o, b ≠ D → s.heap.get? b = some o → h'.get? b = some o) → Q .none { s with heap := h' }) : wpAny (model P w) A (call (.builtin "list.append") [.ref D, u]) Q E s := by
 obtain ⟨n, e⟩ := h
 refine call_meets F.slot_list_append ⟨_, e, rfl⟩ F.entry_list_append (F.args_list_append_2 _ _) (PySem.list_append D its.toArray n u (by rw [List.size_toArray]; exact aY hz)) ⟨e, ?_⟩
 have q := PySem.IsL.update e (·.push u)
 have e2 : its.toArray.push u = (its ++ [u]).toArray := by simp
 rw [e2] at q
 exact hQ _ ⟨_, q⟩ fun b o hb ho => (Heap.get?_update_other s.heap _ (Ne.symm hb)).trans ho
def oN (X : Cx) (ifs : List Expr) (tst : Option FnB) : Prop := match tst with
 | none => ifs = []
 | some t => ∃ c, ifs = [c] ∧ FT X c t
theorem HOk.add {P : Program} {w : World} {H : Hp} {h h' : Heap} {D C : Addr} {o : HO} (x : HOk P w H h) (hD : H D = none) (hC : H C = none) (k : ∀ b u, b ≠ C → h.get? b = some u → h'.get? b = some u) (new : ObjOk P w (upd H D o) h' D o) : HOk P w (upd H D o) h' := fun b u e => by
 by_cases hb : b = D
 · subst hb; rw [ai] at e; cases e; exact new
 · rw [ao hb] at e
   refine (x b u e).stay (fun c v hc q => k c v ?_ q) (fun c q => by rw [ao (am q hD)]; exact q) fun c xs q => by rw [ao (am q hD)]; exact q
   rcases hc with rfl | hc
   · exact am e hC
   · exact am hc hC
theorem vS {b D : Nat} (h : b < D) : b ≠ D := by omega
theorem uK {b D : Nat} (h : b < D) : b ≠ D + 1 := by omega
theorem BU {D : Nat} : D ≠ D + 1 := by omega
section
variable {X : Cx}
def ec : Dv → Dv → Option (Rs Dv)
 | .int i, .int j => some (.ok (.int (i + j)))
 | .str x, .str y => if x.length + y.length ≤ 100000 then some (.ok (.str (x ++ y))) else none
 | .lst a, .lst b => if a.length + b.length ≤ 100000 then some (.ok (.lst (a ++ b))) else none
 | _, _ => none
def vT : R2 := fun x y H Q => rI0 (fun i j => .int (i + j)) x y H Q ∨ ((∃ i j, x = .str i ∧ y = .str j ∧ i.length + j.length ≤ sizeLine ∧ Q (.str (i ++ j)) H) ∨ Df x y H Q)
theorem o_add : OpR X (binaryOp .Add) vT := op_add.or (op_add_str.or ym)
theorem yL : GOp X vT ec := by
 intro dx dy x y H Q rx ry o
 cases dx <;> cases dy <;> try exact (show False from o).elim
 · rename_i i j
   exact .inl ⟨i, j, rx, ry, o _ H (.refl H) rfl⟩
 · rename_i i j
   simp only [ec] at o
   split at o
   · rename_i hl
     exact .inr (.inl ⟨i, j, rx, ry, aY hl, o _ H (.refl H) rfl⟩)
   · exact o.elim
 · rename_i a b
   simp only [ec] at o
   split at o
   · rename_i hl
     obtain ⟨p, xs, rfl, h1, q1⟩ := rx.lstE
     obtain ⟨p2, xs2, rfl, h2, q2⟩ := ry.lstE
     refine .inr (.inr ⟨p, p2, xs, xs2, rfl, rfl, h1, h2, by rw [q1.length, q2.length]; exact aY hl, fun l hl => o _ _ (aj hl _) ⟨l, _, rfl, ai, Reps.mono (aj hl _) _ _ (q1.append q2)⟩⟩)
   · exact o.elim
def sN : Dv → Dv → Option (Rs Dv)
 | .int i, .int j => some (.ok (.int (i - j)))
 | _, _ => none
theorem BV : GOp X (rI0 fun i j => .int (i - j)) sN := by
 intro dx dy x y H Q rx ry o
 cases dx <;> cases dy <;> try exact (show False from o).elim
 rename_i i j
 exact ⟨i, j, rx, ry, o _ H (.refl H) rfl⟩
def fT : Dv → Dv → Option (Rs Dv)
 | .int i, .int j => if (-18446744073709551616 < i ∧ i < 18446744073709551616) ∨ (-18446744073709551616 < j ∧ j < 18446744073709551616) then some (.ok (.int (i * j))) else none
 | _, _ => none
theorem BW : GOp X (rI CMul fun i j => .int (i * j)) fT := by
 intro dx dy x y H Q rx ry o
 cases dx <;> cases dy <;> try exact (show False from o).elim
 rename_i i j
 simp only [fT] at o
 split at o
 · rename_i h
   exact ⟨i, j, rx, ry, h, o _ H (.refl H) rfl⟩
 · exact o.elim
def ef : Dv → Dv → Option (Rs Dv)
 | .int i, .int j => if 0 < j then some (.ok (.int (i % j))) else none
 | _, _ => none
theorem BX : GOp X (rI (fun _ j => 0 < j) fun i j => .int (i % j)) ef := by
 intro dx dy x y H Q rx ry o
 cases dx <;> cases dy <;> try exact (show False from o).elim
 rename_i i j
 simp only [ef] at o
 split at o
 · rename_i h
   exact ⟨i, j, rx, ry, h, o _ H (.refl H) rfl⟩
 · exact o.elim
def el : Dv → Dv → Option (Rs Dv)
 | .int i, .int j => if 0 < j ∧ j < 1073741824 then some (.ok (.int (i / j))) else none
 | _, _ => none
theorem yM : GOp X (rI C9 fun i j => .int (i / j)) el := by
 intro dx dy x y H Q rx ry o
 cases dx <;> cases dy <;> try exact (show False from o).elim
 rename_i i j
 simp only [el] at o
 split at o
 · rename_i h
   exact ⟨i, j, rx, ry, h, o _ H (.refl H) rfl⟩
 · exact o.elim
def yN : Dv → Option (Rs Dv)
 | .int i => some (.ok (.int (-i)))
 | _ => none
def f1 (g : Dv → Option (Rs Dv)) (fa : FnE) : FnE := fun ρ => bnd (fa ρ) g
theorem yO {a : Expr} {fa : FnE} {pos : Pos} (ha : FE X a fa) : FE X (.UnaryOp .USub a pos) (f1 yN fa) :=
 bu (BA yd ha.h) fun σ H Q ρ E o => ⟨ρ, E, Out.bind o fun d v H1 e r o1 => by
  cases d <;> try exact (show False from o1).elim
  rename_i i
  exact ⟨i, r, o1 _ H1 (.refl H1) rfl⟩⟩
def seq (x y : Str) : Bool := x.cps.toList == y.cps.toList
theorem mO (x y : Str) : (x == y) = seq x y := by
 rw [Bool.eq_iff_iff]
 unfold seq
 obtain ⟨⟨a⟩⟩ := x
 obtain ⟨⟨b⟩⟩ := y
 simp
def eqS : Dv → Dv → Option Bool
 | .non, .non => some true
 | .non, .int _ => some false
 | .int _, .non => some false
 | .non, .bl _ => some false
 | .bl _, .non => some false
 | .non, .str _ => some false
 | .str _, .non => some false
 | .int i, .int j => some (i == j)
 | .bl i, .bl j => some (i == j)
 | .str i, .str j => some (seq i j)
 | .int _, .str _ => some false
 | .str _, .int _ => some false
 | .bl _, .str _ => some false
 | .str _, .bl _ => some false
 | _, _ => none
theorem uL {K : PySem.W.Frag} {H : Hp} {dx dy : Dv} {x y : V} {b : Bool} (rx : Rep K H dx x) (ry : Rep K H dy y) (h : eqS dx dy = some b) : BC x y = true ∧ decide (x = y) = b := by
 cases dx <;> cases dy <;> (try cases h) <;> (try (cases rx; cases ry; exact ⟨rfl, by first | rfl | exact lD | exact pb | (rw [lE, mO]) | simp⟩))
def BY (p : Int → Int → Bool) : Dv → Dv → Option (Rs Dv)
 | .int i, .int j => some (.ok (.bl (p i j)))
 | _, _ => none
theorem BZ (p : Int → Int → Bool) : GOp X (rI0 fun i j => .bl (p i j)) (BY p) := by
 intro dx dy x y H Q rx ry o
 cases dx <;> cases dy <;> try exact (show False from o).elim
 rename_i i j
 exact ⟨i, j, rx, ry, o _ H (.refl H) rfl⟩
abbrev gtD := BY fun i j => decide (j < i)
def isN : Dv → Dv → Option (Rs Dv)
 | x, .non => some (.ok (.bl (match x with | .non => true | _ => false)))
 | _, _ => none
theorem vU {K : PySem.W.Frag} {H : Hp} {d : Dv} {v : V} (r : Rep K H d v) : decide (v = .non) = (match d with | .non => true | _ => false) := by
 cases d with
 | non => cases (show v = .non from r); rfl
 | bl b => cases (show v = .bl b from r); rfl
 | int b => cases (show v = .int b from r); rfl
 | str b => cases (show v = .str b from r); rfl
 | tup ds => obtain ⟨a, xs, rfl, _⟩ := r.tupE; rfl
 | lst ds => obtain ⟨a, xs, rfl, _⟩ := r.lstE; rfl
 | scr ds => obtain ⟨a, rfl, _⟩ := r.scrE; rfl
 | exn c =>
  obtain ⟨a, _, _, _, rfl, _⟩ := r.exnE
  rfl
theorem yP : GOp X (fun x y H Q => y = .non ∧ Q (.bl (decide (x = .non))) H) isN := by
 intro dx dy x y H Q rx ry o
 cases dy <;> try exact (show False from o).elim
 have q := vU rx
 refine ⟨ry, ?_⟩
 have q2 := o _ H (.refl H) rfl
 cases dx <;> (rw [q]; exact q2)
def inS (x y : Str) : Bool := !(Builtin.Str.occurrences y x 0 y.length 1).isEmpty
def cu : Dv → Bool
 | .non => true
 | .bl _ => true
 | .int _ => true
 | .str _ => true
 | _ => false
def eqF : Dv → Dv → Bool
 | .non, .non => true
 | .bl a, .bl b => a == b
 | .bl a, .int b => (if a then 1 else 0) == b
 | .int a, .bl b => a == (if b then 1 else 0)
 | .int a, .int b => a == b
 | .str a, .str b => seq a b
 | _, _ => false
def inL (x : Dv) (ys : List Dv) : Option Bool := if cu x && ys.all cu then some (ys.any fun y => eqF y x) else none
def vV : Dv → Dv → Option Bool
 | .str x, .str y => some (inS x y)
 | x, .lst ys => inL x ys
 | x, .tup ys => inL x ys
 | _, _ => none
def inD (x y : Dv) : Option (Rs Dv) := match vV x y with
 | some b => some (.ok (.bl b))
 | none => none
def j7 (x y : Dv) : Option (Rs Dv) := match vV x y with
 | some b => some (.ok (.bl (!b)))
 | none => none
theorem i5 {K : PySem.W.Frag} {H : Hp} {d : Dv} {v : V} (r : Rep K H d v) (h : cu d = true) : cU v = true := by
 cases d <;> first | (cases h; done) | (cases r; rfl)
theorem fX {K : PySem.W.Frag} {H : Hp} : ∀ {ds : List Dv} {vs : List V}, Reps K H ds vs → ds.all cu = true → vs.all cU = true
 | [], vs, r, _ => by cases (show vs = [] from r); rfl
 | d :: ds, vs, r, h => by
  obtain ⟨v, us, rfl, r1, r2⟩ : ∃ v us, vs = v :: us ∧ Rep K H d v ∧ Reps K H ds us := r
  rw [List.all_cons, Bool.and_eq_true] at h
  rw [List.all_cons, Bool.and_eq_true]
  exact ⟨i5 r1 h.1, fX r2 h.2⟩
theorem pK {K : PySem.W.Frag} {H : Hp} {d e : Dv} {v u : V} (r : Rep K H d v) (q : Rep K H e u) (h : cu d = true) (h' : cu e = true) : eqV v u = eqF d e := by
 cases d <;> first | (cases h; done) | (cases r; cases e <;> first | (cases h'; done) | (cases q; first | rfl | exact mO _ _))
theorem uM {K : PySem.W.Frag} {H : Hp} {e : Dv} {u : V} (q : Rep K H e u) (h' : cu e = true) : ∀ {ds : List Dv} {vs : List V}, Reps K H ds vs → ds.all cu = true → (vs.any fun y => eqV y u) = ds.any fun y => eqF y e
 | [], vs, r, _ => by cases (show vs = [] from r); rfl
 | d :: ds, vs, r, h => by
  obtain ⟨v, us, rfl, r1, r2⟩ : ∃ v us, vs = v :: us ∧ Rep K H d v ∧ Reps K H ds us := r
  rw [List.all_cons, Bool.and_eq_true] at h
  rw [List.any_cons, List.any_cons, pK r1 q h.1 h', uM q h' r2 h.2]
theorem mP {K : PySem.W.Frag} {H : Hp} {dx : Dv} {ys : List Dv} {x : V} {vs : List V} {b : Bool} (rx : Rep K H dx x) (ry : Reps K H ys vs) (h : inL dx ys = some b) : cU x = true ∧ vs.all cU = true ∧ inV x vs = b := by
 unfold inL at h
 split at h
 · rename_i hc
   rw [Bool.and_eq_true] at hc
   cases h
   exact ⟨i5 rx hc.1, fX ry hc.2, uM rx hc.1 ry hc.2⟩
 · cases h
def B0 (K : PySem.W.Frag) : R2 := fun x y H Q => (∃ i j, x = .str i ∧ y = .str j ∧ Q (.bl (!(Builtin.Str.occurrences j i 0 j.length 1).isEmpty)) H) ∨ rIn K false x y H Q
def lI (K : PySem.W.Frag) : R2 := fun x y H Q => (∃ i j, x = .str i ∧ y = .str j ∧ Q (.bl (!(!(Builtin.Str.occurrences j i 0 j.length 1).isEmpty))) H) ∨ rIn K true x y H Q
theorem o_in : OpR X (compareOp .In) (B0 X.K) := op_in_str.or pB
theorem o_notIn : OpR X (compareOp .NotIn) (lI X.K) := op_notIn_str.or jY
theorem B1 : GOp X (B0 X.K) inD := by
 intro dx dy x y H Q rx ry o
 unfold inD at o
 split at o
 · rename_i b hb
   have q := o _ H (.refl H) rfl
   cases dy <;> try (cases dx <;> cases hb; done)
   · rename_i z
     cases dx <;> try (cases hb; done)
     rename_i z'
     cases hb
     exact .inl ⟨z', z, rx, ry, q⟩
   · rename_i ys
     have hb' : inL dx ys = some b := by cases dx <;> exact hb
     obtain ⟨a, vs, rfl, h1, h2⟩ := ry.tupE
     obtain ⟨f1, f2, f3⟩ := mP rx h2 hb'
     exact .inr ⟨a, vs, rfl, .inr (SqT.of h1), f1, f2, by rw [if_neg Bool.false_ne_true, f3]; exact q⟩
   · rename_i ys
     have hb' : inL dx ys = some b := by cases dx <;> exact hb
     obtain ⟨a, vs, rfl, h1, h2⟩ := ry.lstE
     obtain ⟨f1, f2, f3⟩ := mP rx h2 hb'
     exact .inr ⟨a, vs, rfl, .inl (SqL.of h1), f1, f2, by rw [if_neg Bool.false_ne_true, f3]; exact q⟩
 · exact o.elim
theorem pL : GOp X (lI X.K) j7 := by
 intro dx dy x y H Q rx ry o
 unfold j7 at o
 split at o
 · rename_i b hb
   have q := o _ H (.refl H) rfl
   cases dy <;> try (cases dx <;> cases hb; done)
   · rename_i z
     cases dx <;> try (cases hb; done)
     rename_i z'
     cases hb
     exact .inl ⟨z', z, rx, ry, q⟩
   · rename_i ys
     have hb' : inL dx ys = some b := by cases dx <;> exact hb
     obtain ⟨a, vs, rfl, h1, h2⟩ := ry.tupE
     obtain ⟨f1, f2, f3⟩ := mP rx h2 hb'
     exact .inr ⟨a, vs, rfl, .inr (SqT.of h1), f1, f2, by rw [if_pos rfl, f3]; exact q⟩
   · rename_i ys
     have hb' : inL dx ys = some b := by cases dx <;> exact hb
     obtain ⟨a, vs, rfl, h1, h2⟩ := ry.lstE
     obtain ⟨f1, f2, f3⟩ := mP rx h2 hb'
     exact .inr ⟨a, vs, rfl, .inl (SqL.of h1), f1, f2, by rw [if_pos rfl, f3]; exact q⟩
 · exact o.elim
def atD {α : Type} (xs : List α) (i : Int) : Option α := if 0 ≤ i then xs[i.toNat]? else if -(xs.length : Int) ≤ i then xs[(i + xs.length).toNat]? else none
theorem i7 {α : Type} {xs : List α} {i : Int} {v : α} (h : atD xs i = some v) : atI xs i = some v := by
 unfold atD at h
 unfold atI ixN
 split at h
 · rename_i h0
   have hl : i.toNat < xs.length := by
    obtain ⟨q, _⟩ := List.getElem?_eq_some_iff.mp h
    exact q
   rw [if_pos h0, if_pos (by omega)]
   exact h
 · rename_i h0
   split at h
   · rename_i h1
     rw [if_neg h0, if_pos h1]
     exact h
   · cases h
def ixD : Dv → Dv → Option (Rs Dv)
 | .lst xs, .int i => (match atD xs i with | some d => some (.ok d) | none => none)
 | .tup xs, .int i => (match atD xs i with | some d => some (.ok d) | none => none)
 | .str z, .int i => if z.length ≤ 100000 then (match atD z.cps.toList i with | some c => some (.ok (.str ⟨#[c]⟩)) | none => none) else none
 | .scr ns, .int i => (match atD ns i with | some d => some (.ok (.int d)) | none => none)
 | _, _ => none
theorem lJ {α β : Type} {xs : List α} {ys : List β} (h : ys.length = xs.length) {i : Int} {x : α} (e : atD xs i = some x) : ∃ j : Nat, xs[j]? = some x ∧ ∀ y, ys[j]? = some y → atD ys i = some y := by
 unfold atD at e
 split at e
 · rename_i h0
   exact ⟨_, e, fun y q => by unfold atD; rw [if_pos h0]; exact q⟩
 · rename_i h0
   split at e
   · rename_i h1
     exact ⟨_, e, fun y q => by unfold atD; rw [if_neg h0, h, if_pos h1]; exact q⟩
   · cases e
theorem DX : GOp X (rIx X.K) ixD := by
 intro dx dy x y H Q rx ry o
 cases dx <;> cases dy <;> try exact (show False from o).elim
 · rename_i z i
   simp only [ixD] at o
   split at o
   · rename_i hl
     split at o
     · rename_i c hc
       exact .inr (.inr ⟨z, i, c, rx, ry, aY hl, i7 hc, o _ H (.refl H) rfl⟩)
     · exact o.elim
   · exact o.elim
 · rename_i ds i
   simp only [ixD] at o
   split at o
   · rename_i d hd
     obtain ⟨a, xs, rfl, h1, h2⟩ := rx.tupE
     obtain ⟨j, e1, e2⟩ := lJ h2.length hd
     obtain ⟨v, e3, r3⟩ := h2.get' e1
     exact .inr (.inl ⟨a, xs, i, v, rfl, ry, SqT.of h1, i7 (e2 v e3), o v H (.refl H) r3⟩)
   · exact o.elim
 · rename_i ds i
   simp only [ixD] at o
   split at o
   · rename_i d hd
     obtain ⟨a, xs, rfl, h1, h2⟩ := rx.lstE
     obtain ⟨j, e1, e2⟩ := lJ h2.length hd
     obtain ⟨v, e3, r3⟩ := h2.get' e1
     exact .inl ⟨a, xs, i, v, rfl, ry, SqL.of h1, i7 (e2 v e3), o v H (.refl H) r3⟩
   · exact o.elim
 · rename_i ns i
   simp only [ixD] at o
   split at o
   · rename_i d hd
     obtain ⟨a, rfl, h1⟩ := rx.scrE
     obtain ⟨j, e1, e2⟩ := lJ (ys := ns.map V.int) (by simp) hd
     exact .inl ⟨a, _, i, .int d, rfl, ry, h1, i7 (e2 _ (by rw [List.getElem?_map, e1] <;> rfl)), o _ H (.refl H) rfl⟩
   · exact o.elim
theorem B4 {a b : Expr} {fa fb : FnE} {pos : Pos} (ha : FE X a fa) (hb : FE X b fb) (hs : pw b := by intro _ _; kernel_rfl) : FE X (.Subscript a b pos) (f2 ixD fa fb) :=
 bu (BJ yj ha.h hb.h hs) fun _ _ _ _ E o => two DX E o
abbrev FnO := Ev → Option (Rs (Option Int))
def OutO (X : Cx) (H : Hp) (o : Option (Rs (Option Int))) (Q : Option Int → Hp → Prop) : Prop := match o with
 | none => False
 | some (.exc c) => XW X c H
 | some (.ok d) => ∀ H', Same H H' → Q d H'
theorem OutO.mono {H H' : Hp} {Q : Option Int → Hp → Prop} (e : Same H H') : ∀ {o : Option (Rs (Option Int))}, OutO X H o Q → OutO X H' o Q
 | none, h => h
 | some (.exc _), h => XW.mono h e
 | some (.ok _), h => fun H1 e1 => h H1 (e.trans e1)
structure FO (X : Cx) (e : Option Expr) (f : FnO) : Prop where
 h : PO X e fun σ H Q => ∃ ρ, Envs X.K H σ ρ ∧ OutO X H (f ρ) Q
def i8 : FnO := fun _ => some (.ok none)
def toI : Dv → Option (Rs (Option Int))
 | .int i => some (.ok (some i))
 | _ => none
def fU (f : FnE) : FnO := fun ρ => bnd (f ρ) toI
theorem vW : FO X none i8 := ⟨fun pins s σ H Q I ⟨_, _, o⟩ => vD pins s σ H Q I (o H (.refl H))⟩
theorem vX {e : Expr} {fa : FnE} (h : FE X e fa) : FO X (some e) (fU fa) := ⟨fun pins s σ H Q I ⟨ρ, E, o⟩ => vE h.h pins s σ H Q I ⟨ρ, E, by
 unfold fU at o
 match hf : fa ρ, o with
 | none, o => exact o
 | some (.exc c), o => exact o
 | some (.ok d), o =>
  intro v H' e r
  cases d <;> try exact (show False from o).elim
  rename_i i
  exact ⟨i, r, o H' e⟩⟩⟩
def su {α : Type} (xs : List α) (lo hi : Option Int) : List α := (xs.drop (HT.sIx xs.length 0 lo)).take (HT.sIx xs.length xs.length hi - HT.sIx xs.length 0 lo)
def DY : V → Option Int → Option Int → Hp → VK → Prop := fun x lo hi H Q => ∃ z, x = .str z ∧ z.length ≤ sizeLine ∧ Q (.str (Txt.slice z lo hi)) H
theorem sl_str : SlR X DY := by
 intro pins s σ H x v vl vu lo hi sl Q I rx hs pl pu q
 obtain ⟨z, rfl, hz, q⟩ := q
 obtain ⟨t, rfl⟩ := rx
 refine ⟨"str", _, F.slot_str_getitem.lookup, typeIs_str _ _ _, ?_⟩
 have fin : ∀ (t' : Tok) (k : Nat), EP X pins σ Q (.str (Txt.slice z lo hi) t') { s with toks := k } := fun t' k => ⟨.str (Txt.slice z lo hi), H, I.tok _, ⟨_, rfl⟩, q⟩
 cases pl with
 | none =>
  cases pu with
  | none => exact wpAny_getItem_str_slice (l := none) (u := none) (st := none) hs rfl (post_val_or_str ⟨Nat.le_trans (Txt.slice_le z _ _) hz, fun t' k => fin t' k⟩)
  | int j u => exact wpAny_getItem_str_slice (l := none) (u := some (j, u)) (st := none) hs rfl (post_val_or_str ⟨Nat.le_trans (Txt.slice_le z _ _) hz, fun t' k => fin t' k⟩)
 | int i u' =>
  cases pu with
  | none => exact wpAny_getItem_str_slice (l := some (i, u')) (u := none) (st := none) hs rfl (post_val_or_str ⟨Nat.le_trans (Txt.slice_le z _ _) hz, fun t' k => fin t' k⟩)
  | int j u => exact wpAny_getItem_str_slice (l := some (i, u')) (u := some (j, u)) (st := none) hs rfl (post_val_or_str ⟨Nat.le_trans (Txt.slice_le z _ _) hz, fun t' k => fin t' k⟩)
def Ba (x : Dv) (lo hi : Option Int) : Option (Rs Dv) := match x with
 | .str z => if z.length ≤ 100000 then some (.ok (.str (Txt.slice z lo hi))) else none
 | .lst xs => some (.ok (.lst (su xs lo hi)))
 | _ => none
def uN (fa : FnE) (fl fh : FnO) : FnE := fun ρ => bnd (fa ρ) fun x => bnd (fl ρ) fun lo => bnd (fh ρ) fun hi => Ba x lo hi
theorem et {H : Hp} {Q : VK} {o : Option (Rs (Option Int))} {k : Option Int → Option (Rs Dv)} {P : Option Int → Hp → Prop} (h : Out X H (bnd o k) Q) (hp : ∀ b H', Same H H' → Out X H' (k b) Q → P b H') : OutO X H o P := by
 match o, h with
 | some (.exc _), h => exact h
 | some (.ok d), h => exact fun H1 e => hp d H1 e (Out.mono e h)
theorem yQ {a : Expr} {lo hi : Option Expr} {fa : FnE} {fl fh : FnO} {p2 pos : Pos} (ha : FE X a fa) (hl : FO X lo fl) (hh : FO X hi fh) : FE X (.Subscript a (.Slice lo hi none p2) pos) (uN fa fl fh) :=
 bu (mJ (sl_str.or pA) ha.h hl.h hh.h) fun σ H Q ρ E o => ⟨ρ, E, Out.bind o fun d v H1 e1 r1 o1 => ⟨ρ, E.mono e1, et o1 fun l H2 e2 o2 => ⟨ρ, (E.mono e1).mono e2, et o2 fun u H3 e3 o3 => by
  have r3 := Rep.mono e3 d v (Rep.mono e2 d v r1)
  cases d <;> try exact (show False from o3).elim
  · rename_i z
    unfold Ba at o3
    dsimp only at o3
    split at o3
    · rename_i hz
      exact .inl ⟨z, r3, aY hz, o3 _ H3 (.refl H3) rfl⟩
    · exact o3.elim
  · rename_i ds
    obtain ⟨a', xs, rfl, h1, h2⟩ := r3.lstE
    refine .inr ⟨a', xs, rfl, SqL.of h1, fun p hp => o3 _ _ (aj hp _) ⟨p, _, rfl, ai, Reps.mono (aj hp _) _ _ ?_⟩⟩
    unfold sG su
    rw [h2.length]
    exact (h2.drop _).take _⟩⟩⟩
def du : List Dv → Option (Rs Dv)
 | [.str z] => if z.length ≤ 100000 then some (.ok (.int z.length)) else none
 | [.lst xs] => some (.ok (.int xs.length))
 | [.tup xs] => some (.ok (.int xs.length))
 | [.scr ns] => some (.ok (.int ns.length))
 | _ => none
def fB1 (g : List Dv → Option (Rs Dv)) (ga : FnA) : FnE := fun ρ => bnd (ga ρ) g
variable {x : Str} {p pos : Pos} {e : Expr} {es : List Expr} {ga : FnA}
theorem bx {K : PySem.W.Frag} {H : Hp} {d : Dv} {vs : List V} (r : Reps K H [d] vs) : ∃ v, vs = [v] ∧ Rep K H d v := by
 obtain ⟨v, us, rfl, r1, r2⟩ : ∃ v us, vs = v :: us ∧ Rep K H d v ∧ Reps K H [] us := r
 cases (show us = [] from r2)
 exact ⟨v, rfl, r1⟩
theorem vY {K : PySem.W.Frag} {H : Hp} {d d2 : Dv} {vs : List V} (r : Reps K H [d, d2] vs) : ∃ v v2, vs = [v, v2] ∧ Rep K H d v ∧ Rep K H d2 v2 := by
 obtain ⟨v, us, rfl, r1, r2⟩ : ∃ v us, vs = v :: us ∧ Rep K H d v ∧ Reps K H [d2] us := r
 obtain ⟨v2, rfl, r3⟩ := bx r2
 exact ⟨v, v2, rfl, r1, r3⟩
theorem yR (hg : Gl X "len") (hm : X.mg "len" = none) (ha : FA X (e :: es) ga) (he : starEach (e :: es) X.env = (false, eval e X.env) :: starEach es X.env := by kernel_rfl) (hpl : (backTo pos (starEach es X.env)).any (·.1) = false := by kernel_rfl) : FE X (.Call (.Name "len" p) (e :: es) [] pos) (fB1 du ga) :=
 bu (cG sD hg hm PySem.boot_len ha.h (by decide) (by decide) he hpl) fun σ H Q ρ E o => ⟨ρ, E, OutA.bind o fun ds vs H1 e1 rs o1 => by
  unfold du at o1
  split at o1
  · rename_i z
    split at o1
    · rename_i hz
      obtain ⟨v, rfl, r⟩ := bx rs
      cases (show v = .str z from r)
      exact ⟨_, _, rfl, ⟨aY hz, rfl⟩, o1 _ H1 (.refl H1) rfl⟩
    · exact o1.elim
  · rename_i xs
    obtain ⟨v, rfl, r⟩ := bx rs
    obtain ⟨a, ws, rfl, h1, h2⟩ := r.lstE
    exact ⟨_, _, rfl, .inl ⟨ws, SqL.of h1, rfl⟩, o1 _ H1 (.refl H1) (by rw [h2.length]; rfl)⟩
  · rename_i xs
    obtain ⟨v, rfl, r⟩ := bx rs
    obtain ⟨a, ws, rfl, h1, h2⟩ := r.tupE
    exact ⟨_, _, rfl, .inr ⟨ws, SqT.of h1, rfl⟩, o1 _ H1 (.refl H1) (by rw [h2.length]; rfl)⟩
  · rename_i ns
    obtain ⟨v, rfl, r⟩ := bx rs
    obtain ⟨a, rfl, h1⟩ := r.scrE
    exact ⟨_, _, rfl, .inl ⟨_, h1, rfl⟩, o1 _ H1 (.refl H1) (by rw [List.length_map]; rfl)⟩
  · exact o1.elim⟩
def jc : List Dv → Option (List Bool)
 | [] => some []
 | .bl b :: r => (match jc r with | some bs => some (b :: bs) | none => none)
 | _ => none
def lK : List Dv → Option (Rs Dv)
 | [.lst xs] => (match jc xs with | some bs => some (.ok (.bl (bs.all id))) | none => none)
 | _ => none
theorem mQ {K : PySem.W.Frag} {H : Hp} : ∀ {ds : List Dv} {vs : List V} {us : List Value} {bs : List Bool}, Reps K H ds vs → Vals vs us → jc ds = some bs → us = bs.map Value.bool
 | [], vs, us, bs, r, q, h => by
  cases (show vs = [] from r)
  cases q
  cases h
  rfl
 | d :: ds, vs, us, bs, r, q, h => by
  obtain ⟨v, ws, rfl, r1, r2⟩ : ∃ v us, vs = v :: us ∧ Rep K H d v ∧ Reps K H ds us := r
  cases q with
  | cons q1 q2 =>
   cases d <;> try (cases h; done)
   rename_i b
   simp only [jc] at h
   cases hb : jc ds with
   | none => rw [hb] at h; cases h
   | some bs' =>
    rw [hb] at h
    cases h
    cases (show v = .bl b from r1)
    cases q1
    rw [mQ r2 q2 hb]
    rfl
theorem sO : CallR X (.builtin "all") (fun xs H Q => ∃ a vs bs ds, xs = [.ref a] ∧ H a = some (.lst vs) ∧ Reps X.K H ds vs ∧ jc ds = some bs ∧ X.calm = true ∧ Q (.bl (bs.all id)) H) := by
 intro pins s σ H xs us Q I r h
 obtain ⟨a, vs, bs, ds, rfl, h1, h2, h3, hc, q⟩ := h
 obtain ⟨u, rfl, ru⟩ := b5 r
 cases ru
 obtain ⟨z, its, n, rv, hl, e⟩ := I.lstM h1
 have eb := mQ h2 rv h3
 subst eb
 have hL : s.heap.IsList a (bs.map Value.bool).toArray := ⟨_, e, rfl, _, rfl⟩
 have hlt : a < s.heap.objs.size := Heap.lt_size e
 refine call_all_walk (wpAny_pyIter_list hL ?_)
 refine ⟨s.heap.objs.size, [s.heap.objs.size, a], [s.heap.objs.size], (bs.map Value.bool).toArray.size, _, _, fun i => (bs[i]?).getD true, rfl, Walks.list (A := X.A.in1) (I.ok.hd hc) _ a (Nat.ne_of_lt hlt) (bs.map Value.bool).toArray,
  ⟨⟨_, Heap.get?_push_size _ rfl, rfl, rfl⟩, hL.push _⟩, fun i v s' Q' E' hP hQ => ?_, fun h' tk hk => ?_⟩
 · have hP' : (bs.map Value.bool)[i]? = some v := by simpa using hP
   rw [List.getElem?_map] at hP'
   cases hb : bs[i]? with
   | none => rw [hb] at hP'; cases hP'
   | some b =>
    rw [hb] at hP'
    cases hP'
    have hQ2 : Q' ((bs[i]?).getD true) s' := hQ
    rw [hb] at hQ2
    exact wpAny_truthy_bool hQ2
 · have e2 : ((List.range (bs.map Value.bool).toArray.size).all fun i => (bs[i]?).getD true) = bs.all id := by
    rw [List.size_toArray, List.length_map]
    rw [Bool.eq_iff_iff]
    simp only [List.all_eq_true, List.mem_range, id]
    constructor
    · intro hh b hb
      obtain ⟨i, hi, rfl⟩ := List.mem_iff_getElem.mp hb
      simpa [hi] using hh i hi
    · intro hh i hi
      simp only [List.getElem?_eq_getElem hi, Option.getD_some]
      exact hh _ (List.getElem_mem hi)
   rw [e2]
   refine ⟨.bl _, H, I.kept fun b x eb => hk b x (fun hm => ?_) (Heap.get?_push_of_some _ eb), rfl, q⟩
   rw [List.mem_singleton.mp hm] at eb
   exact Nat.lt_irrefl _ (Heap.lt_size eb)
theorem yS (hc : X.calm = true) (hg : Gl X "all") (hm : X.mg "all" = none) (ha : FA X (e :: es) ga) (he : starEach (e :: es) X.env = (false, eval e X.env) :: starEach es X.env := by kernel_rfl) (hpl : (backTo pos (starEach es X.env)).any (·.1) = false := by kernel_rfl) : FE X (.Call (.Name "all" p) (e :: es) [] pos) (fB1 lK ga) :=
 bu (cG sO hg hm PyProof.Rows.boot_all ha.h (by decide) (by decide) he hpl) fun σ H Q ρ E o => ⟨ρ, E, OutA.bind o fun ds vs H1 e1 rs o1 => by
  unfold lK at o1
  split at o1
  · rename_i xs
    split at o1
    · rename_i bs hb
      obtain ⟨v, rfl, r⟩ := bx rs
      obtain ⟨a, ws, rfl, h1, h2⟩ := r.lstE
      exact ⟨a, ws, bs, xs, rfl, h1, h2, hb, hc, o1 _ H1 (.refl H1) rfl⟩
    · exact o1.elim
  · exact o1.elim⟩
def tyD : Dv → String
 | .non => "NoneType"
 | .bl _ => "bool"
 | .int _ => "int"
 | .str _ => "str"
 | .tup _ => "tuple"
 | .lst _ => "list"
 | .scr _ => "list"
 | .exn _ => "object"
end
section
variable {X : Cx} {p pos apos cpos pT : Pos} {e a o : Expr} {es : List Expr} {ga : FnA} {fa fo : FnE}
theorem vZ {K : PySem.W.Frag} {H : Hp} {d : Dv} {v : V} (r : Rep K H d v) (hs : ∀ ns, d ≠ .scr ns) (hx : ∀ c, d ≠ .exn c) : mH K H v (.type (tyD d)) := by
 cases d with
 | non => cases (show v = .non from r); exact .non
 | bl b => cases (show v = .bl b from r); exact .bl b
 | int b => cases (show v = .int b from r); exact .int b
 | str b => cases (show v = .str b from r); exact .str b
 | tup ds => obtain ⟨a, xs, rfl, h, _⟩ := r.tupE; exact .tup h
 | lst ds => obtain ⟨a, xs, rfl, h, _⟩ := r.lstE; exact .lst h
 | scr ns => exact absurd rfl (hs ns)
 | exn c => exact absurd rfl (hx c)
theorem sP (T : String) : CallR X (.builtin "isinstance") (fun xs H Q => ∃ x t b, xs = [x, .ty T] ∧ mH X.K H x t ∧ PySem.W.kitOne X.K t (.type T) = some b ∧ Q (.bl b) H) := by
 intro pins s σ H xs us Q I r h
 obtain ⟨x, t, b, rfl, ty, hk, q⟩ := h
 obtain ⟨u, w', rfl, ru, rw'⟩ := vz r
 cases (show w' = Value.type T from rw')
 exact pp I ru ty hk fun tk => ⟨.bl b, H, I.tok tk, rfl, q⟩
def fY (tb : Dv → Bool) : Dv → Option (Rs Dv)
 | .scr _ => none
 | .exn _ => none
 | d => some (.ok (.bl (tb d)))
theorem mR {T : String} {tb : Dv → Bool} (hk : ∀ K d, PySem.W.kitOne K (.type (tyD d)) (.type T) = some (tb d)) (hT : bootBuiltins (Str.ofString T) = some (.type T)) (hn : Str.ofString T ≠ "__name__") (hdT : (Str.ofString T == ("__debug__" : Str)) = false)
 (hg : Gl X "isinstance") (hm : X.mg "isinstance" = none) (hgT : Gl X (Str.ofString T)) (hmT : X.mg (Str.ofString T) = none) (ha : FE X a fa)
 (hs1 : starEach [a, .Name (Str.ofString T) pT] X.env = (false, eval a X.env) :: starEach [.Name (Str.ofString T) pT] X.env := by kernel_rfl) (hs2 : starEach [.Name (Str.ofString T) pT] X.env = (false, eval (.Name (Str.ofString T) pT) X.env) :: starEach [] X.env := by kernel_rfl)
 (hpl : (backTo pos (starEach [.Name (Str.ofString T) pT] X.env)).any (·.1) = false := by kernel_rfl) :
 FE X (.Call (.Name "isinstance" p) [a, .Name (Str.ofString T) pT] [] pos) (f1 (fY tb) fa) :=
 bu (cG (sP T) hg hm PyProof.Rows.boot_isinstance (lF ha.h (lF (vq (v := .ty T) hgT hmT hT rfl hn hdT) uE hs2) hs1) (by decide) (by decide) hs1 hpl) fun σ H Q ρ E o => ⟨ρ, E, Out.bind o fun d v H1 e1 r o1 => by
  show ∃ x t b, [v, V.ty T] = [x, .ty T] ∧ _
  cases d with
  | scr ns => exact o1.elim
  | exn c => exact o1.elim
  | _ => exact ⟨v, _, _, rfl, vZ r (fun ns z => by cases z) (fun c z => by cases z), hk X.K _, o1 _ H1 (.refl H1) rfl⟩⟩
def j8 : Dv → Bool
 | .str _ => true
 | _ => false
theorem v3 (K : PySem.W.Frag) (d : Dv) : PySem.W.kitOne K (.type (tyD d)) (.type "str") = some (j8 d) := by cases d <;> kernel_rfl
def jd : Dv → Bool
 | .tup _ => true
 | _ => false
theorem v4 (K : PySem.W.Frag) (d : Dv) : PySem.W.kitOne K (.type (tyD d)) (.type "tuple") = some (jd d) := by cases d <;> kernel_rfl
def cY : Dv → Bool
 | .bl _ => true
 | _ => false
theorem sQ (K : PySem.W.Frag) (d : Dv) : PySem.W.kitOne K (.type (tyD d)) (.type "bool") = some (cY d) := by cases d <;> kernel_rfl
def fM (g : Str → List Dv → Option (Rs Dv)) (fo : FnE) (ga : FnA) : FnE := fun ρ => bnd (fo ρ) fun x => match x with
 | .str i => bnd (ga ρ) fun xs => g i xs
 | _ => none
def sS (h : Str → Str → Bool) : Str → List Dv → Option (Rs Dv)
 | x, [.str y] => some (.ok (.bl (h x y)))
 | _, _ => none
def Bb (h : Str → Str → Int) : Str → List Dv → Option (Rs Dv)
 | x, [.str y] => some (.ok (.int (h x y)))
 | _, _ => none
def v6 (h : Str → Str → Bool) : V → List V → Hp → VK → Prop := fun x xs H Q => ∃ i j, x = .str i ∧ xs = [.str j] ∧ Q (.bl (h i j)) H
def yT (h : Str → Str → Int) : V → List V → Hp → VK → Prop := fun x xs H Q => ∃ i j, x = .str i ∧ xs = [.str j] ∧ Q (.int (h i j)) H
theorem B5 : MtR X "str.startswith" (v6 Txt.startswith) := by
 intro pins s σ H x xs v us Q I rx rs h
 obtain ⟨i, j, rfl, rfl, q⟩ := h
 obtain ⟨t, rfl⟩ := rx
 obtain ⟨u, rfl, ru⟩ := b5 rs
 obtain ⟨t', rfl⟩ := ru
 exact SC.startswith ⟨.bl _, H, I, rfl, q⟩
theorem B6 : MtR X "str.endswith" (v6 Txt.endswith) := by
 intro pins s σ H x xs v us Q I rx rs h
 obtain ⟨i, j, rfl, rfl, q⟩ := h
 obtain ⟨t, rfl⟩ := rx
 obtain ⟨u, rfl, ru⟩ := b5 rs
 obtain ⟨t', rfl⟩ := ru
 exact SC.endswith ⟨.bl _, H, I, rfl, q⟩
theorem v7 : MtR X "str.find" (yT Txt.find) := by
 intro pins s σ H x xs v us Q I rx rs h
 obtain ⟨i, j, rfl, rfl, q⟩ := h
 obtain ⟨t, rfl⟩ := rx
 obtain ⟨u, rfl, ru⟩ := b5 rs
 obtain ⟨t', rfl⟩ := ru
 exact SC.find ⟨.int _, H, I.tok _, ⟨_, rfl⟩, q⟩
theorem v8 {name : Str} {id : String} {r : V → List V → Hp → VK → Prop} {g : Str → List Dv → Option (Rs Dv)} (slot : Slot "str" name id) (hty : typeOf (.builtin id) = pure (.type "method_descriptor")) (hm : MtR X id r)
 (hg : ∀ i ds vs H Q, Reps X.K H ds vs → Out X H (g i ds) Q → r (.str i) vs H Q) (ho : FE X o fo) (ha : FA X (e :: es) ga)
 (hbase : attributeBase o name X.env (eval o X.env) = eval o X.env := by kernel_rfl)
 (hfew : ((backTo cpos (starEach (e :: es) X.env)).all (fun x => !x.1) && (backToKw cpos (keywordEach [] X.env)).all (fun x => x.1.isSome)
   && decide ((e :: es).length + ([] : List Keyword).length + (if ([] : List Keyword).isEmpty then 0 else 1) < 30)) = true := by kernel_rfl)
 (hline : (apos.endLine == cpos.line) = true := by kernel_rfl) (hs : starEach (e :: es) X.env = (false, eval e X.env) :: starEach es X.env := by kernel_rfl) (hplain : (backTo cpos (starEach es X.env)).any (·.1) = false := by kernel_rfl) :
 FE X (.Call (.Attribute o name apos) (e :: es) [] cpos) (fM g fo ga) :=
 bu (sH PySem.F.plainAttrs_str slot hty hm ho.h ha.h hbase hfew hline hs hplain) fun σ H Q ρ E o => ⟨ρ, E, Out.bind o fun d v H1 e1 rd o1 => by
  cases d <;> try exact (show False from o1).elim
  rename_i i
  cases (show v = .str i from rd)
  exact ⟨rfl, ρ, E.mono e1, OutA.bind o1 fun ds vs H2 e2 rs o2 => hg i ds vs H2 Q rs o2⟩⟩
theorem uO {h : Str → Str → Bool} (i : Str) (ds : List Dv) (vs : List V) (H : Hp) (Q : VK) (rs : Reps X.K H ds vs) (o : Out X H (sS h i ds) Q) : v6 h (.str i) vs H Q := by
 unfold sS at o
 split at o
 · rename_i j
   obtain ⟨w, rfl, rw'⟩ := bx rs
   cases (show w = .str j from rw')
   exact ⟨i, j, rfl, rfl, o _ H (.refl H) rfl⟩
 · exact o.elim
theorem yU {h : Str → Str → Int} (i : Str) (ds : List Dv) (vs : List V) (H : Hp) (Q : VK) (rs : Reps X.K H ds vs) (o : Out X H (Bb h i ds) Q) : yT h (.str i) vs H Q := by
 unfold Bb at o
 split at o
 · rename_i j
   obtain ⟨w, rfl, rw'⟩ := bx rs
   cases (show w = .str j from rw')
   exact ⟨i, j, rfl, rfl, o _ H (.refl H) rfl⟩
 · exact o.elim
def Di (K : PySem.W.Frag) : R2 := fun x y H Q => ∃ (a b : Addr) (ns : List Int), x = .ref a ∧ y = .ref b ∧ SqL K H a (ns.map V.int) ∧ H b = some (.lst []) ∧ Q (.bl ns.isEmpty) H
theorem B7 (hu : X.A.units < cLine) : OpR X (compareOp .Eq) (Di X.K) := by
 intro pins s σ H x y v u Q I rx ry h
 obtain ⟨a, b, ns, rfl, rfl, h1, h2, q⟩ := h
 cases rx
 cases ry
 obtain ⟨its, r, pl, hz⟩ := I.list h1
 obtain ⟨z2, its2, n2, r2, hl2, e2⟩ := I.lstM h2
 cases r2
 have hb : s.heap.IsList b #[] := ⟨_, e2, rfl, _, rfl⟩
 have hl := r.length
 cases ns with
 | nil =>
  have e0 : its = [] := by cases its with | nil => rfl | cons _ _ => simp at hl
  subst e0
  exact SeqAt.eq_listAt (e := fun _ => true) pl.isList hb rfl hu (fun i hi => absurd hi (by simp)) (by first | exact ⟨.bl _, H, I, rfl, q⟩ | (refine ⟨.bl _, H, I, ?_, q⟩; simp [RelV]))
 | cons n ns =>
  refine SeqAt.eq_list_lengthsAt pl.isList hb ?_ hu ⟨.bl _, H, I, rfl, q⟩
  have : 0 < its.length := by rw [← hl]; simp
  simp
  exact fun z => by rw [z] at this; simp at this
def Bc : Dv → Dv → Option (Rs Dv)
 | .scr ns, .lst [] => some (.ok (.bl ns.isEmpty))
 | _, _ => none
theorem B8 : GOp X (Di X.K) Bc := by
 intro dx dy x y H Q rx ry o
 unfold Bc at o
 split at o
 · rename_i ns
   obtain ⟨a, rfl, h1⟩ := rx.scrE
   obtain ⟨b, xs, rfl, h2, h3⟩ := ry.lstE
   cases (show xs = [] from h3)
   exact ⟨a, b, ns, rfl, rfl, h1, h2, o _ H (.refl H) rfl⟩
 · exact o.elim
end
end FD
namespace FD
open PySem
theorem yV : bootBuiltins (Str.ofString "str") = some (.type "str") := PyProof.Rows.boot_str
theorem sT : bootBuiltins (Str.ofString "tuple") = some (.type "tuple") := by decide +kernel
theorem v9 : bootBuiltins (Str.ofString "bool") = some (.type "bool") := by decide +kernel
end FD
namespace FD
open PySem PySem.Spec PyProof.Rows L2
mutual
def bm : Dv → PyData
 | .non => .none
 | .bl b => .bool b
 | .int i => .int i
 | .str x => .str x
 | .tup xs => .tuple (toPys xs)
 | .lst xs => .list (toPys xs)
 | .scr ns => .list (ns.map PyData.int)
 | .exn _ => .dict []
def toPys : List Dv → List PyData
 | [] => []
 | d :: ds => bm d :: toPys ds
end
section
variable {X : Cx} {pins : List (Addr × Obj)} {σ : L2.St} {H : Hp} {s : Shared}
theorem io : ∀ {ns : List Int} {us : List Value}, Vals (ns.map V.int) us → ∃ as, ReadsAll s.heap us (ns.map PyData.int) as
 | [], us, r => by cases r; exact ⟨_, .nil⟩
 | n :: ns, us, r => by
  cases r with
  | cons r1 r2 =>
   obtain ⟨t, rfl⟩ := r1
   obtain ⟨as, q⟩ := io r2
   exact ⟨_, .cons (.int n t) q⟩
mutual
theorem Rep.reads (I : Inv X pins σ H s) : ∀ (d : Dv) (v : V) (u : Value), Rep X.K H d v → RelV v u → (bm d).canLay0 = true → ∃ as, Reads s.heap u (bm d) as
 | .non, v, u, r, q, hz0 => by cases (show v = .non from r); cases (show u = Value.none from q); exact ⟨_, .none⟩
 | .bl b, v, u, r, q, hz0 => by cases (show v = .bl b from r); cases (show u = Value.bool b from q); exact ⟨_, .bool b⟩
 | .int i, v, u, r, q, hz0 => by cases (show v = .int i from r); obtain ⟨t, rfl⟩ := (show ∃ t, u = Value.int i t from q); exact ⟨_, .int i t⟩
 | .str x, v, u, r, q, hz0 => by cases (show v = .str x from r); obtain ⟨t, rfl⟩ := (show ∃ t, u = Value.str x t from q); exact ⟨_, .str x t⟩
 | .tup ds, v, u, r, q, hz0 => by
  obtain ⟨a, xs, rfl, h, rs⟩ := r.tupE
  cases (show u = Value.ref a from q)
  obtain ⟨its, rv, ⟨o, e, c, n, d⟩, hz⟩ := I.tuple (SqT.of h)
  obtain ⟨as, ra⟩ := Reps.reads I ds xs its rs rv (by simpa [bm, PyData.canLay0] using hz0)
  exact ⟨as, .tuple e c d (by simpa using ra)⟩
 | .lst ds, v, u, r, q, hz0 => by
  obtain ⟨a, xs, rfl, h, rs⟩ := r.lstE
  cases (show u = Value.ref a from q)
  obtain ⟨z, its, n, rv, hl, e⟩ := I.lstM h
  obtain ⟨as, ra⟩ := Reps.reads I ds xs its rs rv (by simpa [bm, PyData.canLay0] using hz0)
  exact ⟨a :: as, .list e rfl rfl (by simpa using ra)⟩
 | .scr ns, v, u, r, q, hz0 => by
  obtain ⟨a, rfl, h⟩ := r.scrE
  cases (show u = Value.ref a from q)
  obtain ⟨its, rv, ⟨o, n, e, c, hd, d⟩, hz⟩ := I.list h
  obtain ⟨as, ra⟩ := io (s := s) rv
  exact ⟨a :: as, .list e c d (by simpa using ra)⟩
 | .exn c, v, u, r, q, hz0 => by simp [bm, PyData.canLay0] at hz0
theorem Reps.reads (I : Inv X pins σ H s) : ∀ (ds : List Dv) (vs : List V) (us : List Value), Reps X.K H ds vs → Vals vs us → PyData.canLayAll0 (toPys ds) = true → ∃ as, ReadsAll s.heap us (toPys ds) as
 | [], vs, us, r, q, _ => by cases (show vs = [] from r); cases q; exact ⟨_, .nil⟩
 | d :: ds, vs, us, r, q, hz0 => by
  obtain ⟨v, ws, rfl, r1, r2⟩ : ∃ v us, vs = v :: us ∧ Rep X.K H d v ∧ Reps X.K H ds us := r
  cases q with
  | cons q1 q2 =>
   have hz1 : (bm d).canLay0 = true ∧ PyData.canLayAll0 (toPys ds) = true := by simpa [toPys, PyData.canLayAll0] using hz0
   obtain ⟨as, a⟩ := Rep.reads I d v _ r1 q1 hz1.1
   obtain ⟨bs, b⟩ := Reps.reads I ds ws _ r2 q2 hz1.2
   exact ⟨_, .cons a b⟩
end
end
section
variable {X : Cx}
def okP (d : Dv) : Bool := SeqAt.shaped (bm d)
def rPy (X : Cx) (neg : Bool) : R2 := fun x y H Q => ∃ dx dy, Rep X.K H dx x ∧ Rep X.K H dy y ∧ okP dx = true ∧ okP dy = true ∧ Q (.bl (if neg then !PyData.eqv (bm dx) (bm dy) else PyData.eqv (bm dx) (bm dy))) H
theorem yW (hu : X.A.units + 64 < cLine) : OpR X (compareOp .Eq) (rPy X false) := by
 intro pins s σ H x y v u Q I rx ry h
 obtain ⟨dx, dy, qx, qy, hx, hy, q⟩ := h
 obtain ⟨as, ra⟩ := Rep.reads I dx x v qx rx (Bool.and_eq_true_iff.mp hx).1
 obtain ⟨bs, rb⟩ := Rep.reads I dy y u qy ry (Bool.and_eq_true_iff.mp hy).1
 exact SeqAt.compareEq_shaped ra rb hx hy hu ⟨.bl _, H, I, rfl, q⟩
theorem yX (hu : X.A.units + 64 < cLine) : OpR X (compareOp .NotEq) (rPy X true) := by
 intro pins s σ H x y v u Q I rx ry h
 obtain ⟨dx, dy, qx, qy, hx, hy, q⟩ := h
 obtain ⟨as, ra⟩ := Rep.reads I dx x v qx rx (Bool.and_eq_true_iff.mp hx).1
 obtain ⟨bs, rb⟩ := Rep.reads I dy y u qy ry (Bool.and_eq_true_iff.mp hy).1
 exact SeqAt.compareNe_shaped ra rb hx hy hu ⟨.bl _, H, I, rfl, q⟩
def eqX (x y : Dv) : Option (Rs Dv) := match eqS x y with
 | some b => some (.ok (.bl b))
 | none => if okP x && okP y then some (.ok (.bl (PyData.eqv (bm x) (bm y)))) else none
def neX (x y : Dv) : Option (Rs Dv) := match eqS x y with
 | some b => some (.ok (.bl (!b)))
 | none => if okP x && okP y then some (.ok (.bl (!PyData.eqv (bm x) (bm y)))) else none
def Dj (X : Cx) : R2 := fun x y H Q => rEq x y H Q ∨ rPy X false x y H Q
def Dk (X : Cx) : R2 := fun x y H Q => rNe x y H Q ∨ rPy X true x y H Q
theorem yY (hu : X.A.units + 64 < cLine) : OpR X (compareOp .Eq) (Dj X) := op_eq.or (yW hu)
theorem B9 (hu : X.A.units + 64 < cLine) : OpR X (compareOp .NotEq) (Dk X) := op_ne.or (yX hu)
theorem yZ : GOp X (Dj X) eqX := by
 intro dx dy x y H Q rx ry o
 unfold eqX at o
 split at o
 · rename_i b hb
   obtain ⟨h1, h2⟩ := uL rx ry hb
   exact .inl ⟨h1, by rw [h2]; exact o _ H (.refl H) rfl⟩
 · split at o
   · rename_i hc
     rw [Bool.and_eq_true] at hc
     exact .inr ⟨dx, dy, rx, ry, hc.1, hc.2, o _ H (.refl H) rfl⟩
   · exact o.elim
theorem Ca : GOp X (Dk X) neX := by
 intro dx dy x y H Q rx ry o
 unfold neX at o
 split at o
 · rename_i b hb
   obtain ⟨h1, h2⟩ := uL rx ry hb
   exact .inl ⟨h1, by rw [h2]; exact o _ H (.refl H) rfl⟩
 · split at o
   · rename_i hc
     rw [Bool.and_eq_true] at hc
     exact .inr ⟨dx, dy, rx, ry, hc.1, hc.2, o _ H (.refl H) rfl⟩
   · exact o.elim
def ltX : Dv → Dv → Option (Rs Dv)
 | .int i, .int j => some (.ok (.bl (decide (i < j))))
 | .str x, .str y => some (.ok (.bl (decide (x.cps.toList < y.cps.toList))))
 | _, _ => none
def Dl : R2 := fun x y H Q => rI0 (fun i j => .bl (decide (i < j))) x y H Q ∨ ∃ i j, x = .str i ∧ y = .str j ∧ Q (.bl (decide (i.cps.toList < j.cps.toList))) H
theorem y0 : OpR X (compareOp .Lt) Dl := op_lt.or pe
theorem y1 : GOp X Dl ltX := by
 intro dx dy x y H Q rx ry o
 cases dx <;> cases dy <;> try exact (show False from o).elim
 · rename_i i j
   exact .inl ⟨i, j, rx, ry, o _ H (.refl H) rfl⟩
 · rename_i i j
   exact .inr ⟨i, j, rx, ry, o _ H (.refl H) rfl⟩
theorem j9 : ∀ (ps : List Str) (k : Nat), Vals (ps.map V.str) (strsFrom k ps)
 | [], _ => .nil
 | p :: ps, k => .cons ⟨k, rfl⟩ (j9 ps (k + 1))
theorem ka {K : PySem.W.Frag} {H : Hp} : ∀ ps : List Str, Reps K H (ps.map Dv.str) (ps.map V.str)
 | [] => rfl
 | p :: ps => ⟨.str p, ps.map V.str, rfl, rfl, ka ps⟩
def ip : Str → List Dv → Option (Rs Dv)
 | x, [.str y] => if y.length ≠ 0 ∧ x.length ≤ 100000 ∧ (Txt.split x y).length ≤ 100000 then some (.ok (.lst ((Txt.split x y).map Dv.str))) else none
 | _, _ => none
def uP : V → List V → Hp → VK → Prop := fun x xs H Q => ∃ i j, x = .str i ∧ xs = [.str j] ∧ j.length ≠ 0 ∧ i.length ≤ sizeLine ∧ (Txt.split i j).length ≤ sizeLine ∧ ∀ p, H p = none → Q (.ref p) (upd H p (.lst ((Txt.split i j).map V.str)))
theorem sU : MtR X "str.split" uP := by
 intro pins s σ H x xs v us Q I rx rs h
 obtain ⟨i, j, rfl, rfl, hj, hi, hn, q⟩ := h
 obtain ⟨t, rfl⟩ := rx
 obtain ⟨u, rfl, ru⟩ := b5 rs
 obtain ⟨t', rfl⟩ := ru
 have hy : (j.length == 0) = false := by simpa using hj
 have one : ∀ {s' : Shared}, s' = { s with heap := s.heap.push { cls := .type "list", data := .seq [Value.str i t].toArray } } → Txt.split i j = [i] → EP X pins σ Q (.ref s.heap.objs.size) s' := fun e e2 => by
  subst e
  rw [e2] at q
  exact ⟨.ref _, _, I.lnew (its := [Value.str i t]) (ys := [V.str i]) (t' := s.toks) (.cons ⟨t, rfl⟩ .nil) (by show 1 ≤ sizeLine; decide), rfl, q _ I.fresh⟩
 cases h1 : (decide (i.length < j.length) || decide (Builtin.Str.strKind i < Builtin.Str.strKind j))
 · cases hf : (Builtin.Str.occurrences i j 0 i.length (i.length + 1)).isEmpty
   · have e2 : Txt.split i j = Builtin.Str.partsBetween i (Builtin.Str.occurrences i j 0 i.length (i.length + 1)) j.length := by
      unfold Txt.split
      rw [if_neg (by rw [h1]; exact Bool.false_ne_true), if_neg (by rw [hf]; exact Bool.false_ne_true)]
     rw [e2] at q hn
     refine call_meets F.slot_str_split (typeIs_str _ _ _) F.entry_str_split (F.args_str_split_2 _ _) (meets_str_split_sep i j t t' h1 hy hf hi hn) ?_
     exact ⟨.ref _, _, I.lnew (t' := _) (j9 _ _) (by rw [List.length_map]; exact hn), rfl, q _ I.fresh⟩
   · refine call_meets F.slot_str_split (typeIs_str _ _ _) F.entry_str_split (F.args_str_split_2 _ _) (meets_str_split_not_found i j t t' h1 hy hf) ?_
     exact one rfl (by unfold Txt.split; rw [if_neg (by rw [h1]; exact Bool.false_ne_true), if_pos hf])
 · refine call_meets F.slot_str_split (typeIs_str _ _ _) F.entry_str_split (F.args_str_split_2 _ _) (meets_str_split_cannot_occur i j t t' h1) ?_
   exact one rfl (by unfold Txt.split; rw [if_pos h1])
theorem wa (i : Str) (ds : List Dv) (vs : List V) (H : Hp) (Q : VK) (rs : Reps X.K H ds vs) (o : Out X H (ip i ds) Q) : uP (.str i) vs H Q := by
 unfold ip at o
 split at o
 · rename_i j
   split at o
   · rename_i hc
     obtain ⟨w, rfl, rw'⟩ := bx rs
     cases (show w = .str j from rw')
     exact ⟨i, j, rfl, rfl, hc.1, aY hc.2.1, aY hc.2.2, fun p hp => o _ _ (aj hp _) ⟨p, _, rfl, ai, ka _⟩⟩
   · exact o.elim
 · exact o.elim
def oj : List Dv → Option (List Str)
 | [] => some []
 | .str x :: r => (match oj r with | some xs => some (x :: xs) | none => none)
 | _ => none
def pM : Str → List Dv → Option (Rs Dv)
 | x, [.lst ds] => (match oj ds with
  | some ts => if JoinOk x ts = true then some (.ok (.str (Txt.join x ts))) else none
  | none => none)
 | _, _ => none
def y2 (K : PySem.W.Frag) : V → List V → Hp → VK → Prop := fun x xs H Q => ∃ i a vs ds ts, x = .str i ∧ xs = [.ref a] ∧ H a = some (.lst vs) ∧ Reps K H ds vs ∧ oj ds = some ts ∧ JoinOk i ts = true ∧ Q (.str (Txt.join i ts)) H
theorem iq {K : PySem.W.Frag} {H : Hp} : ∀ {ds : List Dv} {vs : List V} {us : List Value} {ts : List Str}, Reps K H ds vs → Vals vs us → oj ds = some ts → ∃ l : List (Str × Tok), us = strValues l ∧ l.map (·.1) = ts
 | [], vs, us, ts, r, q, h => by
  cases (show vs = [] from r)
  cases q
  cases h
  exact ⟨[], rfl, rfl⟩
 | d :: ds, vs, us, ts, r, q, h => by
  obtain ⟨v, ws, rfl, r1, r2⟩ : ∃ v us, vs = v :: us ∧ Rep K H d v ∧ Reps K H ds us := r
  cases q with
  | cons q1 q2 =>
   cases d <;> try (cases h; done)
   rename_i b
   simp only [oj] at h
   cases hb : oj ds with
   | none => rw [hb] at h; cases h
   | some bs' =>
    rw [hb] at h
    cases h
    cases (show v = .str b from r1)
    obtain ⟨t, rfl⟩ := q1
    obtain ⟨l, e1, e2⟩ := iq r2 q2 hb
    exact ⟨(b, t) :: l, by rw [e1]; rfl, by rw [List.map_cons, e2]⟩
theorem wb : MtR X "str.join" (y2 X.K) := by
 intro pins s σ H x xs v us Q I rx rs h
 obtain ⟨i, a, vs, ds, ts, rfl, rfl, h1, h2, h3, h4, q⟩ := h
 obtain ⟨t, rfl⟩ := rx
 obtain ⟨u, rfl, ru⟩ := b5 rs
 cases ru
 obtain ⟨z, its, n, rv, hl, e⟩ := I.lstM h1
 obtain ⟨l, e1, e2⟩ := iq h2 rv h3
 subst e1
 exact SC.join ⟨_, e, rfl, _, rfl⟩ e2 h4 fun t' k => ⟨.str _, H, I.tok _, ⟨_, rfl⟩, q⟩
theorem y3 (i : Str) (ds : List Dv) (vs : List V) (H : Hp) (Q : VK) (rs : Reps X.K H ds vs) (o : Out X H (pM i ds) Q) : y2 X.K (.str i) vs H Q := by
 unfold pM at o
 split at o
 · rename_i es
   split at o
   · rename_i ts ht
     split at o
     · rename_i hj
       obtain ⟨w, rfl, rw'⟩ := bx rs
       obtain ⟨a, xs, rfl, h1, h2⟩ := rw'.lstE
       exact ⟨i, a, xs, es, ts, rfl, rfl, h1, h2, ht, hj, o _ H (.refl H) rfl⟩
     · exact o.elim
   · exact o.elim
 · exact o.elim
def sV : Str → List Dv → Option (Rs Dv)
 | x, [.str y] => if y.length ≠ 0 ∧ x.length ≤ 100000 then some (.ok (.tup [.str (Txt.partition x y).1, .str (Txt.partition x y).2.1, .str (Txt.partition x y).2.2])) else none
 | _, _ => none
def y4 : V → List V → Hp → VK → Prop := fun x xs H Q => ∃ i j, x = .str i ∧ xs = [.str j] ∧ j.length ≠ 0 ∧ i.length ≤ sizeLine ∧ ∀ p, H p = none → Q (.ref p) (upd H p (.tup [.str (Txt.partition i j).1, .str (Txt.partition i j).2.1, .str (Txt.partition i j).2.2]))
theorem wc : MtR X "str.partition" y4 := by
 intro pins s σ H x xs v us Q I rx rs h
 obtain ⟨i, j, rfl, rfl, hj, hi, q⟩ := h
 obtain ⟨t, rfl⟩ := rx
 obtain ⟨u, rfl, ru⟩ := b5 rs
 obtain ⟨t', rfl⟩ := ru
 have hy : (j.length == 0) = false := by simpa using hj
 have fin : ∀ (a b c : Str) (ta tb tc : Tok) (k : Nat), Txt.partition i j = (a, b, c) → EP X pins σ Q (.ref s.heap.objs.size) { s with toks := k, heap := s.heap.push { cls := .type "tuple", data := .seq [Value.str a ta, .str b tb, .str c tc].toArray } } := fun a b c ta tb tc k e => by
  rw [e] at q
  refine ⟨.ref _, _, I.laid (t' := k) (fun b u e => Heap.get?_push_of_some _ e) (Nat.le_refl _) ?_, rfl, q _ I.fresh⟩
  exact ⟨by show 3 ≤ sizeLine; decide, [Value.str a ta, .str b tb, .str c tc], .cons ⟨_, rfl⟩ (.cons ⟨_, rfl⟩ (.cons ⟨_, rfl⟩ .nil)), ⟨_, Heap.get?_push_size _ rfl, rfl, _, rfl⟩⟩
 refine call_meets F.slot_str_partition (typeIs_str _ _ _) F.entry_str_partition (F.args_str_partition_2 _ _) (meets_str_partition i j t t' hy hi) ?_
 cases ho : Builtin.Str.occurrences i j 0 i.length 1 with
 | nil => exact fin _ _ _ _ _ _ _ (by unfold Txt.partition; rw [ho])
 | cons k r => exact fin _ _ _ _ _ _ _ (by unfold Txt.partition; rw [ho])
theorem y6 (i : Str) (ds : List Dv) (vs : List V) (H : Hp) (Q : VK) (rs : Reps X.K H ds vs) (o : Out X H (sV i ds) Q) : y4 (.str i) vs H Q := by
 unfold sV at o
 split at o
 · rename_i j
   split at o
   · rename_i hc
     obtain ⟨w, rfl, rw'⟩ := bx rs
     cases (show w = .str j from rw')
     exact ⟨i, j, rfl, rfl, hc.1, aY hc.2, fun p hp => o _ _ (aj hp _) ⟨p, _, rfl, ai, ⟨_, _, rfl, rfl, _, _, rfl, rfl, _, _, rfl, rfl, rfl⟩⟩⟩
   · exact o.elim
 · exact o.elim
variable {p pos : Pos} {e : Expr} {es : List Expr} {ga : FnA}
def fI : List Dv → Option (Rs Dv)
 | [.lst xs] => some (.ok (.tup xs))
 | [.tup xs] => some (.ok (.tup xs))
 | _ => none
theorem sW (hg : Gl X "tuple") (hm : X.mg "tuple" = none) (ha : FA X (e :: es) ga) (he : starEach (e :: es) X.env = (false, eval e X.env) :: starEach es X.env := by kernel_rfl) (hpl : (backTo pos (starEach es X.env)).any (·.1) = false := by kernel_rfl) : FE X (.Call (.Name "tuple" p) (e :: es) [] pos) (fB1 fI ga) :=
 bu (jW iY hg hm (by decide +kernel) ha.h (by decide) (by decide) he hpl) fun σ H Q ρ E o => ⟨ρ, E, OutA.bind o fun ds vs H1 e1 rs o1 => by
  unfold fI at o1
  split at o1
  · rename_i xs
    obtain ⟨v, rfl, r⟩ := bx rs
    obtain ⟨a, ws, rfl, h1, h2⟩ := r.lstE
    exact ⟨a, ws, rfl, .inl ⟨SqL.of h1, fun l hl => o1 _ _ (aj hl _) ⟨l, ws, rfl, ai, Reps.mono (aj hl _) _ _ h2⟩⟩⟩
  · rename_i xs
    obtain ⟨v, rfl, r⟩ := bx rs
    obtain ⟨a, ws, rfl, h1, h2⟩ := r.tupE
    exact ⟨a, ws, rfl, .inr ⟨SqT.of h1, o1 _ H1 (.refl H1) ⟨a, ws, rfl, h1, h2⟩⟩⟩
  · exact o1.elim⟩
end
section
variable {X : Cx} {apos cpos : Pos} {e o : Expr} {es : List Expr} {ga : FnA} {fo : FnE}
def Bd (x : Dv) : List Dv → Nat → Option Nat
 | [], _ => none
 | y :: ys, k => if eqF y x then some k else Bd x ys (k + 1)
def Cb : List Dv → List Dv → Option (Rs Dv)
 | xs, [x] => if cu x && xs.all cu && decide (xs.length ≤ 100000) then (match Bd x xs 0 with | some j => some (.ok (.int j)) | none => none) else none
 | _, _ => none
theorem pN {K : PySem.W.Frag} {H : Hp} {x : Dv} {u : V} (q : Rep K H x u) (hx : cu x = true) : ∀ {xs : List Dv} {vs : List V} {k j : Nat}, Reps K H xs vs → xs.all cu = true → Bd x xs k = some j →
 k ≤ j ∧ (∃ v, vs[j - k]? = some v ∧ eqV v u = true) ∧ ∀ (m : Nat) v, m < j - k → vs[m]? = some v → eqV v u = false
 | [], vs, k, j, r, _, h => by cases h
 | y :: ys, vs, k, j, r, hf, h => by
  obtain ⟨v, ws, rfl, r1, r2⟩ : ∃ v us, vs = v :: us ∧ Rep K H y v ∧ Reps K H ys us := r
  rw [List.all_cons, Bool.and_eq_true] at hf
  unfold Bd at h
  have e1 := pK r1 q hf.1 hx
  split at h
  · rename_i hh
    cases h
    refine ⟨Nat.le_refl _, ⟨v, by simp, by rw [e1]; exact hh⟩, fun m w hm => by omega⟩
  · rename_i hh
    obtain ⟨a, ⟨w, b1, b2⟩, c⟩ := pN q hx r2 hf.2 h
    refine ⟨by omega, ⟨w, ?_, b2⟩, fun m z hm hz => ?_⟩
    · have e : j - k = (j - (k + 1)) + 1 := by omega
      rw [e, List.getElem?_cons_succ]
      exact b1
    · cases m with
      | zero =>
       have : z = v := by simpa using hz.symm
       subst this
       rw [e1]
       simpa using hh
      | succ m => exact c m z (by omega) (by simpa using hz)
def y8 : V → List V → Hp → VK → Prop := fun x xs H Q => ∃ a vs y j, x = .ref a ∧ xs = [y] ∧ H a = some (.lst vs) ∧ cU y = true ∧ vs.all cU = true ∧ vs.length ≤ 100000 ∧ (∃ v, vs[j]? = some v ∧ eqV v y = true) ∧ (∀ (m : Nat) v, m < j → vs[m]? = some v → eqV v y = false) ∧ Q (.int j) H
theorem uQ {y : V} {vs : List V} {its : List Value} (r : Vals vs its) (f : vs.all cU = true) {m : Nat} {v : V} (h : vs[m]? = some v) : ∃ hm : m < its.length, eqU y its[m] = eqV v y := by
 obtain ⟨u, hu, ru⟩ := r.get h
 obtain ⟨hm, e⟩ := List.getElem?_eq_some_iff.mp hu
 refine ⟨hm, ?_⟩
 rw [e]
 exact mK ru (List.all_eq_true.mp f v (List.mem_of_getElem? h))
theorem sX : MtR X "list.index" y8 := by
 intro pins s σ H x xs v us Q I rx rs h
 obtain ⟨a, vs, y, j, rfl, rfl, h1, fy, fv, hz, ⟨w, hw, hit⟩, hno, q⟩ := h
 cases rx
 obtain ⟨u, rfl, ru⟩ := b5 rs
 obtain ⟨z, its, n, rv, hl, e⟩ := I.lstM h1
 obtain ⟨hj, ej⟩ := uQ (y := y) rv fv hw
 refine call_meets PySem.F.slot_list_index ⟨_, e, rfl⟩ PySem.F.entry_list_index (PySem.F.args_list_index_2 _ _) (SeqAt.list_indexAt a its.toArray n none #[] u (eqU y) j (by simpa using hj) (by omega) (by simpa [ej] using hit) fun m hm hlt => ?_) ⟨e, fun t ht => cH ru fy rv fv t (by simpa using ht), ⟨.int j, H, I.tok _, ⟨_, rfl⟩, q⟩⟩
 have hm' : m < vs.length := by rw [rv.length]; simpa using hm
 obtain ⟨hm2, em⟩ := uQ (y := y) rv fv (List.getElem?_eq_getElem hm')
 have := hno m vs[m] hlt (List.getElem?_eq_getElem hm')
 simpa [em] using this
def fML (g : List Dv → List Dv → Option (Rs Dv)) (fo : FnE) (ga : FnA) : FnE := fun ρ => bnd (fo ρ) fun x => match x with
 | .lst i => bnd (ga ρ) fun xs => g i xs
 | _ => none
theorem sY (ho : FE X o fo) (ha : FA X (e :: es) ga)
 (hbase : attributeBase o "index" X.env (eval o X.env) = eval o X.env := by kernel_rfl)
 (hfew : ((backTo cpos (starEach (e :: es) X.env)).all (fun x => !x.1) && (backToKw cpos (keywordEach [] X.env)).all (fun x => x.1.isSome)
   && decide ((e :: es).length + ([] : List Keyword).length + (if ([] : List Keyword).isEmpty then 0 else 1) < 30)) = true := by kernel_rfl)
 (hline : (apos.endLine == cpos.line) = true := by kernel_rfl) (hs : starEach (e :: es) X.env = (false, eval e X.env) :: starEach es X.env := by kernel_rfl) (hplain : (backTo cpos (starEach es X.env)).any (·.1) = false := by kernel_rfl) :
 FE X (.Call (.Attribute o "index" apos) (e :: es) [] cpos) (fML Cb fo ga) :=
 bu (sH PySem.F.plainAttrs_list PySem.F.slot_list_index PySem.F.type_list_index sX ho.h ha.h hbase hfew hline hs hplain) fun σ H Q ρ E o => ⟨ρ, E, Out.bind o fun d v H1 e1 rd o1 => by
  cases d <;> try exact (show False from o1).elim
  rename_i ds
  obtain ⟨a, vs, rfl, h1, h2⟩ := rd.lstE
  refine ⟨.inl ⟨rfl, vs, SqL.of h1⟩, ρ, E.mono e1, OutA.bind o1 fun es ws H2 e2 rs o2 => ?_⟩
  unfold Cb at o2
  split at o2
  · rename_i x
    split at o2
    · rename_i hc
      rw [Bool.and_eq_true, Bool.and_eq_true] at hc
      split at o2
      · rename_i j hj
        obtain ⟨w, rfl, rw'⟩ := bx rs
        have h2' := Reps.mono e2 _ _ h2
        obtain ⟨c1, c2, c3⟩ := pN rw' hc.1.1 h2' hc.1.2 hj
        refine ⟨a, vs, w, j, rfl, rfl, e2 _ _ h1, i5 rw' hc.1.1, fX h2' hc.1.2, by rw [h2.length]; exact of_decide_eq_true hc.2, by simpa using c2, by simpa using c3, o2 _ H2 (.refl H2) rfl⟩
      · exact o2.elim
    · exact o2.elim
  · exact o2.elim⟩
end
structure FG (X : Cx) (tg : Expr) (b : Dv → Ev → Option Ev) : Prop where
 h : ∀ (pins : List (Addr × Obj)) (s : Shared) (σ : L2.St) (H : Hp) (v : V) (u : Value) (d : Dv) (ρ ρ' : Ev), Inv X pins σ H s → RelV v u → Rep X.K H d v → Envs X.K H σ ρ → b d ρ = some ρ' →
  wpAny (model X.prog X.w) X.A (assign tg X.env u) (fun _ s' => ∃ σ' H', Inv X pins σ' H' s' ∧ Same H H' ∧ Envs X.K H' σ' ρ') X.xe s
def gN (i : Nat) : Dv → Ev → Option Ev := fun d ρ => some (ρ.set i (some d))
def gP (i j : Nat) : Dv → Ev → Option Ev := fun d ρ => match d with
 | .tup [a, c] => some ((ρ.set i (some a)).set j (some c))
 | _ => none
section
variable {X : Cx} {pos p1 p2 : Pos}
theorem we (i : Nat) {x : Str} (hN : X.N.Nodup) (hi : X.N[i]? = some x) (hx : Loc X.env.scope x) (hf : X.fn x = true ∨ X.env.scope.names.lookup x = some .local) : FG X (.Name x pos) (gN i) :=
 ⟨fun pins s σ H v u d ρ ρ' I r rd E e => by
  cases e
  exact thn (eR hN hi hx hf pins s σ H v u (fun σ' H' => H' = H ∧ σ' = σ.set i (some v)) I r ⟨rfl, rfl⟩) fun _ s' ⟨σ', H', I', e1, e2⟩ => by
   subst e1 e2
   exact ⟨_, _, I', .refl _, E.set rd⟩⟩
theorem wf (i j : Nat) {x y : Str} {k : Nat} (hc : X.calm = true) (hN : X.N.Nodup) (hi : X.N[i]? = some x) (hx : Loc X.env.scope x) (hf : X.fn x = true ∨ X.env.scope.names.lookup x = some .local)
 (hj : X.N[j]? = some y) (hy : Loc X.env.scope y) (hg : X.fn y = true ∨ X.env.scope.names.lookup y = some .local)
 (hs1 : (assignEach [.Name x p1, .Name y p2] X.env).map (·.2) = assign (.Name x p1) X.env :: (assignEach [.Name y p2] X.env).map (·.2) := by kernel_rfl) (hs2 : (assignEach [.Name y p2] X.env).map (·.2) = assign (.Name y p2) X.env :: (assignEach [] X.env).map (·.2) := by kernel_rfl)
 (hn : (assignEach [.Name x p1, .Name y p2] X.env).length = 2 := by kernel_rfl) (hst : (assignEach [.Name x p1, .Name y p2] X.env).findIdx? (·.1) = none := by kernel_rfl) : FG X (.Tuple [.Name x p1, .Name y p2] k pos) (gP i j) :=
 ⟨fun pins s σ H v u d ρ ρ' I r rd E e => by
  unfold gP at e
  split at e
  · rename_i a c
    cases e
    obtain ⟨ad, xs, rfl, h1, h2⟩ := rd.tupE
    obtain ⟨va, vc, rfl, ra, rc⟩ := vY h2
    refine thn (x5 (n := 2) hc (mE (eR (i := i) hN hi hx hf) (mE (eR (i := j) hN hj hy hg) vv hs2) hs1) hn hst pins s σ H _ u (fun σ' H' => H' = H ∧ σ' = (σ.set i (some va)).set j (some vc)) I r ⟨ad, _, rfl, SqT.of h1, rfl, va, [vc], rfl, vc, [], rfl, rfl, rfl, rfl⟩) fun _ s' ⟨σ', H', I', e1, e2⟩ => ?_
    subst e1 e2
    exact ⟨_, _, I', .refl _, (E.set ra).set rc⟩
  · cases e⟩
end
structure WkG (K : PySem.W.Frag) (J : It) (ds : List Dv) (H0 : Hp) : Prop where
 go : ∀ i H, Same H0 H → i < ds.length → J.go i H
 stop : ∀ H, Same H0 H → J.stop ds.length H
 yld : ∀ i H x H', Same H0 H → i < ds.length → J.yld i H x H' → Same H H' ∧ ∃ d, ds[i]? = some d ∧ Rep K H' d x
theorem Wk.toG {K : PySem.W.Frag} {J : It} {ds : List Dv} {H0 : Hp} (w : Wk K J ds H0) : WkG K J ds H0 :=
 ⟨w.go, w.stop, fun i H x H' e hi y => by
  obtain ⟨rfl, d, h1, h2⟩ := w.yld i H x H' e hi y
  exact ⟨.refl _, d, h1, h2⟩⟩
def OutG (X : Cx) (H : Hp) (o : Option (Rs (List Dv))) (R : It → Hp → Prop) : Prop := match o with
 | none => False
 | some (.exc c) => XW X c H
 | some (.ok ds) => ∀ J H', Same H H' → WkG X.K J ds H' → R J H'
theorem OutG.mono {X : Cx} {H H' : Hp} {R : It → Hp → Prop} (e : Same H H') : ∀ {o : Option (Rs (List Dv))}, OutG X H o R → OutG X H' o R
 | none, h => h
 | some (.exc _), h => XW.mono h e
 | some (.ok _), h => fun v H1 e1 r => h v H1 (e.trans e1) r
structure FIG (X : Cx) (tg iter : Expr) (f : FnA) : Prop where
 h : PI X tg iter fun σ H R => ∃ ρ, Envs X.K H σ ρ ∧ OutG X H (f ρ) R
theorem FI.toG {X : Cx} {tg iter : Expr} {f : FnA} (h : FI X tg iter f) : FIG X tg iter f :=
 ⟨fun pins s σ H R I ⟨ρ, E, o⟩ => h.h pins s σ H R I ⟨ρ, E, by
  match hf : f ρ, o with
  | some (.exc c), o => exact o
  | some (.ok ds), o => exact fun J H' e w => o J H' e w.toG⟩⟩
def cZ (m : Nat) (cs : List (Str × Nat)) (ρ : Ev) : Ev := List.replicate m none ++ cs.map fun c => (ρ[c.2]?).join
def eQ (b : Dv → Ev → Option Ev) (tst : Option FnB) (elt : FnE) (cap : Ev) : List Dv → Option (List Dv)
 | [] => some []
 | d :: ds => match b d cap with
  | none => none
  | some ρ => match (match tst with | none => (some (.ok true) : Option (Rs Bool)) | some t => t ρ) with
   | some (.ok true) => (match elt ρ with
    | some (.ok y) => (match eQ b tst elt cap ds with | some ys => some (y :: ys) | none => none)
    | _ => none)
   | some (.ok false) => eQ b tst elt cap ds
   | _ => none
structure eV (osc scope : Scope) (cs : List (Str × Nat)) (N : List Str) : Prop where
 kind : scope.kind = .function
 cell : ∀ y ∈ scope.names, y.2 ≠ .cell
 names : ∀ y ∈ scope.names, y.2 = .local → scope.names.lookup y.1 = some .local
 free : ∀ y ∈ scope.names, y.2 = .free → osc.names.lookup y.1 = some .cell ∨ osc.names.lookup y.1 = some .free
 caps : ∀ c ∈ cs, N[c.2]? = some c.1 ∧ scope.names.lookup c.1 = some .free
def kb (m : Nat) (cs : List (Str × Nat)) (σ : L2.St) : L2.St := List.replicate m none ++ cs.map fun c => (σ[c.2]?).join
theorem kc {α : Type} {m i : Nat} {v : α} {l : List (Option α)} (h : (List.replicate m (none : Option α) ++ l)[i]? = some (some v)) : ∃ k, i = m + k ∧ l[k]? = some (some v) := by
 by_cases hi : i < m
 · rw [List.getElem?_append_left (by simpa using hi), List.getElem?_replicate, if_pos hi] at h
   cases h
 · refine ⟨i - m, by omega, ?_⟩
   rw [List.getElem?_append_right (by simpa using hi)] at h
   simpa using h
theorem pO {K : PySem.W.Frag} {H : Hp} {σ : L2.St} {ρ : Ev} (m : Nat) (cs : List (Str × Nat)) (E : Envs K H σ ρ) : Envs K H (kb m cs σ) (cZ m cs ρ) := by
 refine ⟨by simp [kb, cZ], fun i d h => ?_⟩
 obtain ⟨k, rfl, hk⟩ := kc h
 rw [List.getElem?_map] at hk
 cases hc : cs[k]? with
 | none => rw [hc] at hk; simp at hk
 | some c =>
  rw [hc] at hk
  simp only [Option.map_some, Option.some.injEq] at hk
  have h2 : ρ[c.2]? = some (some d) := by
   cases q : ρ[c.2]? with
   | none => rw [q] at hk; simp at hk
   | some o => rw [q] at hk; simp at hk; rw [hk]
  obtain ⟨v, h3, h4⟩ := E.at' c.2 d h2
  refine ⟨v, ?_, h4⟩
  unfold kb
  rw [List.getElem?_append_right (by simp)]
  simp only [List.length_replicate, Nat.add_sub_cancel_left, List.getElem?_map, hc, Option.map_some, h3]
  rfl
theorem pP {X : Cx} {pins : List (Addr × Obj)} {σ : L2.St} {H : Hp} {s : Shared} {scope : Scope} {ns : List Str} {cs : List (Str × Nat)} {fp : List Addr} {h₁ : Heap} {C : Addr} {t' : Nat} (ok : eV X.env.scope scope cs X.N) (I : Inv X pins σ H s) (hfp : ∀ b ∈ fp, nV X pins H b) (hlt : ∀ b ∈ fp, b < s.heap.objs.size)
 (hC : s.heap.objs.size ≤ C) (hns : h₁.Ns C fun _ => none) (old : ∀ b o, s.heap.get? b = some o → h₁.get? b = some o) :
 Inv (al X (ns ++ cs.map (·.1)) scope C s H fp) [] (kb ns.length cs σ) H { s with heap := h₁, toks := t' } := by
 have cl1 : ∀ n c, (ij scope.names X.env []).lookup n = some c → X.env.cells.lookup n = some c := fun n c e => by
  rcases ik _ _ e with q | ⟨q1, q2⟩
  · simp at q
  · obtain ⟨c', e'⟩ := I.ok.has n (ok.free _ q1 rfl)
    rw [e'] at q2
    rw [e', q2] <;> rfl
 have kf : ∀ n k, (relabel scope X.env).names.lookup n = some k → (k = .cell ∨ k = .free) → (n, NameKind.free) ∈ scope.names := fun n k h hk => by
  rcases j6 h with q | ⟨_, q⟩
  · rcases hk with rfl | rfl
    · exact absurd rfl (ok.cell _ q)
    · exact q
  · exact q
 refine ⟨⟨I.ok.mod, ok.kind, I.ok.glob, I.ok.blt, hC, fun y z c e1 e2 => I.ok.inj y z c (cl1 y c e1) (cl1 z c e2), fun y hy => ?_, fun y c h => Bool.noConfusion h, I.ok.hd, I.ok.frames, .inl rfl, fun b hb => ⟨fun z => ?_, fun y c e => (hfp b hb).2.2.2.2.1 y c (cl1 y c e)⟩, I.bs, Nat.le_trans I.ok.bsz I.sz, fun b o e hb => ?_, fun b hb z => ?_, I.stack, I.stkFree⟩,
  rfl, I.bare, Un.kept old, ⟨_, hns, fun i y v h1 h2 h3 => ?_⟩, fun y c e => ?_, I.hok.fresh hC, fun y c e => I.freeC y c (cl1 y c e), fun p hp => absurd (show p ∈ ([] : List (Addr × Obj)) from hp) (by simp), I.hok.kept old, by simp [kb, al]⟩
 · have hm : (y, NameKind.free) ∈ scope.names := by
    rcases hy with hy | hy
    · exact kf y _ hy (.inl rfl)
    · exact kf y _ hy (.inr rfl)
   exact Option.isSome_iff_exists.mp (i4 _ _ hm)
 · have := hlt b hb
   rw [z] at this
   exact absurd (Nat.lt_of_lt_of_le this hC) (Nat.lt_irrefl _)
 · rcases (hfp b hb).2.2.2.1 with z | z
   · exact I.ok.noex b o e z
   · exact absurd (Nat.lt_of_lt_of_le (Heap.lt_size e) (Nat.le_trans I.ok.bsz z)) (Nat.lt_irrefl _)
 · rcases List.mem_cons.mp (I.stkSub b z) with q | q
   · exact (hfp b hb).2.1 q
   · exact (hfp b hb).2.2.1 q
 · obtain ⟨k, rfl, h4⟩ := kc h2
   have h1' : (ns ++ cs.map (·.1))[ns.length + k]? = some y := h1
   rw [List.getElem?_append_right (by simp)] at h1'
   simp only [Nat.add_sub_cancel_left] at h1'
   rw [List.getElem?_map] at h1'
   cases hc : cs[k]? with
   | none => rw [hc] at h1'; simp at h1'
   | some c =>
    rw [hc] at h1'
    have ey : c.1 = y := by simpa using h1'
    subst ey
    rw [List.getElem?_map, hc] at h4
    simp only [Option.map_some, Option.some.injEq] at h4
    have h2' : σ[c.2]? = some (some v) := by
     cases q : σ[c.2]? with
     | none => rw [q] at h4; simp at h4
     | some o => rw [q] at h4; simp at h4; rw [h4]
    obtain ⟨hN, hf⟩ := ok.caps c (List.mem_of_getElem? hc)
    have hv := ok.free _ (dj hf) rfl
    obtain ⟨mm, _, hl⟩ := I.loc
    obtain ⟨u, r, l⟩ := hl c.2 c.1 v hN h2' (.inr hv)
    refine ⟨u, r, .inr ⟨fH hf, ?_⟩⟩
    rcases l with ⟨l, _⟩ | ⟨_, a, ha, o, ho, hd⟩
    · have l' : X.env.scope.names.lookup c.1 = some .local := l
      rcases hv with z | z
      · rw [l'] at z; cases z
      · rw [l'] at z; cases z
    · obtain ⟨a', ha'⟩ := Option.isSome_iff_exists.mp (i4 (env := X.env) scope.names [] (dj hf))
      have e2 := cl1 _ _ ha'
      rw [ha] at e2
      cases e2
      exact ⟨a, ha', o, old _ _ ho, hd⟩
 · obtain ⟨v, o, ho, hd⟩ := I.cell y c (cl1 y c e)
   exact ⟨v, o, old _ _ ho, hd⟩
theorem ke {prog : Program} {w : World} {A : Around} {R : Result → Shared → Prop} {s : Shared} {elt target iter : Expr} {ifs : List Expr} {scope : Scope} {pos : Pos} {it acc : Value} {env : Env} (I : Nat → Shared → Prop)
 (turn : ∀ n s, I n s → wpAny (model prog w) A (pyNext it) (fun r s₁ => match r with
   | none => R (.ok .next) s₁
   | some v => wpAny (model prog w) A (letOwnedTupleGo target it v) (fun _ s₀ => wpAny (model prog w) A (assign target env v) (fun _ s₂ =>
    wpAny (model prog w) A (forIn ifs true fun c r => if r = true then do let ok ← isTrue c env (eval c env); pure (ForInStep.yield ok) else pure (ForInStep.yield r)) (fun ok s₃ =>
     if ok = true then wpAny (model prog w) A (eval elt env) (fun x s₄ =>
      wpAny (model prog w) A (call (.builtin "list.append") [acc, x]) (fun _ s₅ => ∃ m, m < n ∧ I m s₅) (notedBy (model prog w) A env fun e s' => R (.error e) s') s₄) (notedBy (model prog w) A env fun e s' => R (.error e) s') s₃
     else ∃ m, m < n ∧ I m s₃) (notedBy (model prog w) A env fun e s' => R (.error e) s') s₂) (notedBy (model prog w) A env fun e s' => R (.error e) s') s₀) (notedBy (model prog w) A env fun e s' => R (.error e) s') s₁) (notedBy (model prog w) A env fun e s' => R (.error e) s') s)
 (n : Nat) (h : I n s) :
 codeAny (model prog w) A (.compLoop (.ListComp elt [⟨target, iter, ifs, 0⟩] scope pos) 0 it acc env) R s := by
 refine codeAny_loop rfl I (fun n s hI => ?_) n h
 show wpAny _ A ((compTurn (.ListComp elt [⟨target, iter, ifs, 0⟩] scope pos) 0 it acc env).onRaise (fun x => do noteFrame x env; theTreesLotGoes x)) _ _ s
 refine wpAny_noted ?_
 rw [compTurn_list]
 refine wpAny_bind (wpAny_standAt (wpAny_bind (wpAny_mono (turn n s hI) (fun r s₁ h₁ => ?_) fun _ _ h' => h')))
 cases r with
 | none => exact wpAny_pure h₁
 | some v =>
  refine wpAny_bind (wpAny_mono h₁ (fun _ s₀ h₀ => ?_) fun _ _ h' => h')
  refine wpAny_bind (wpAny_mono h₀ (fun _ s₂ h₂ => wpAny_bind (wpAny_mono h₂ (fun ok s₃ h₃ => ?_) fun _ _ h' => h')) fun _ _ h' => h')
  cases ok with
  | false =>
   rw [if_neg Bool.false_ne_true] at h₃
   first
    | exact wpAny_bind (wpAny_pure (wpAny_pure ⟨rfl, h₃⟩))
    | exact wpAny_pure ⟨rfl, h₃⟩
    | (show wpAny _ _ (again _) _ _ _; exact wpAny_pure ⟨rfl, h₃⟩)
  | true =>
   rw [if_pos rfl] at h₃
   first
    | exact wpAny_bind (wpAny_bind (wpAny_mono h₃ (fun x s₄ h₄ => wpAny_bind (wpAny_mono h₄ (fun _ s₅ h₅ => wpAny_pure (wpAny_pure ⟨rfl, h₅⟩)) fun _ _ h' => h')) fun _ _ h' => h'))
    | exact wpAny_bind (wpAny_mono h₃ (fun x s₄ h₄ => wpAny_bind (wpAny_mono h₄ (fun _ s₅ h₅ => wpAny_pure ⟨rfl, h₅⟩) fun _ _ h' => h')) fun _ _ h' => h')
def y9 (X : Cx) (ns : List Str) (cs : List (Str × Nat)) (scope : Scope) (D : Addr) (s2 : Shared) (H2 : Hp) (fp : List Addr) (tn : Nat → Heap → Prop) (ds ys : List Dv) (b : Dv → Ev → Option Ev) (tst : Option FnB) (fe : FnE) (ρ : Ev) (m : Nat) (s' : Shared) : Prop :=
 ∃ i σ' H' es vs its, m = ds.length - i ∧ i ≤ ds.length ∧ Inv (al X (ns ++ cs.map (·.1)) scope (D + 1) s2 H2 fp) [] σ' H' s' ∧ Envs X.K H' σ' (cZ ns.length cs ρ) ∧ tn i s'.heap ∧ (∀ b ∈ fp, H' b = none) ∧ H' D = none ∧ LAt s'.heap D its ∧ Vals vs its ∧ Reps X.K H' es vs ∧ es.length ≤ i ∧ Same H2 H' ∧
  (match eQ b tst fe (cZ ns.length cs ρ) (ds.drop i) with | some zs => es ++ zs = ys | none => False)
theorem kg {X : Cx} {pins : List (Addr × Obj)} {σ : L2.St} {tg elt iter : Expr} {ifs : List Expr} {scope : Scope} {pos : Pos} {ns : List Str} {tst : Option FnB} {fe : FnE} {b : Dv → Ev → Option Ev} {js : List Nat} (cs : List (Str × Nat)) (ok : eV X.env.scope scope cs X.N) (hc : X.calm = true)
 (htg : ∀ C s H fp, FG (al X (ns ++ cs.map (·.1)) scope C s H fp) tg b) (helt : ∀ C s H fp, FE (al X (ns ++ cs.map (·.1)) scope C s H fp) elt fe) (hifs : ∀ C s H fp, oN (al X (ns ++ cs.map (·.1)) scope C s H fp) ifs tst)
 (hback : ∀ ρ d ρ', b d (cZ ns.length cs ρ) = some ρ' → fgt js ρ' = cZ ns.length cs ρ)
 {ρ : Ev} {s2 : Shared} {it : Addr} {fp : List Addr} {tn : Nat → Heap → Prop} {J : It} {H2 : Hp} (E : Envs X.K H2 σ ρ) (I2 : Inv X pins σ H2 s2) (T : uB X.prog X.w X.K tg J fp it tn) (st2 : tn 0 s2.heap) (f2 : ∀ b ∈ fp, nV X pins H2 b) {ds ys : List Dv} (wk : WkG X.K J ds H2) (hdl : ds.length ≤ 100000) (hyl : ys.length ≤ 100000) (hm : eQ b tst fe (cZ ns.length cs ρ) ds = some ys)
 {RR : Value → Addr → Result → Shared → Prop}
 (hRR : ∀ (D C : Addr) (s6 : Shared) (H5 : Hp) (vs : List V) (m6 : Str → Option Value), Inv X pins σ (upd H5 D (.lst vs)) s6 → H5 D = none → Same H2 H5 → Reps X.K H5 ys vs → s6.heap.Ns C m6 → H5 C = none → C ≠ D → s2.heap.objs.size ≤ C → RR (.ref D) C (.ok .next) s6) :
 wpAny (model X.prog X.w) X.A (newList []) (fun acc s₃ => wpAny (model X.prog X.w) X.A (newFunctionEnv scope X.env.globals (ij scope.names X.env []) [] X.env.qual none .none (some X.env)) (fun cenv s₄ =>
  codeAny (model X.prog X.w) X.A (.compStart (.ListComp elt [⟨tg, iter, ifs, 0⟩] scope pos) 0 (.ref it) acc { cenv with scope := relabel scope X.env }) (RR acc cenv.locals) s₄) X.xe s₃) X.xe s2 := by
 have fplt : ∀ b ∈ fp, b < s2.heap.objs.size := fun b hb => by
  obtain ⟨o, ho, _⟩ := T.obj _ _ st2 b hb
  exact Heap.lt_size ho
 refine wpAny_newObj_type (wpAny_newFunctionEnv ok.cell (by intro y hy; simp at hy) (fun h₁ hns₁ hsb₁ => ?_) ok.kind)
 dsimp only at hns₁ hsb₁ ⊢
 generalize hH2 : s2.heap.push { cls := .type "list", dict := none, data := .seq ([] : List Value).toArray } = P2 at hns₁ hsb₁ ⊢
 obtain ⟨D, hD⟩ : ∃ D, s2.heap.objs.size = D := ⟨_, rfl⟩
 have hC : P2.objs.size = D + 1 := by rw [← hH2, Heap.size_push, hD]
 rw [hC] at hns₁ hsb₁
 rw [hC, hD]
 have old : ∀ b o, s2.heap.get? b = some o → h₁.get? b = some o := fun b o e => by
  have hb : b < D := by rw [← hD]; exact Heap.lt_size e
  exact hsb₁.extBut b o (uK hb) (Heap.get?_push_of_some _ (hH2 ▸ Heap.get?_push_of_some _ e))
 have hacc : LAt h₁ D [] := ⟨0, hsb₁.extBut _ _ BU (Heap.get?_push_of_some _ (by rw [← hH2, ← hD]; exact Heap.get?_push_size _ rfl))⟩
 have hns : h₁.Ns (D + 1) fun _ => none := by simpa using hns₁
 have I4 : Inv (al X (ns ++ cs.map (·.1)) scope (D + 1) s2 H2 fp) [] (kb ns.length cs σ) H2 { s2 with heap := h₁, toks := s2.toks + ([] : List (Str × Value)).length } := pP ok I2 f2 fplt (by rw [hD]; exact Nat.le_succ D) hns old
 have E4 : Envs X.K H2 (kb ns.length cs σ) (cZ ns.length cs ρ) := pO ns.length cs E
 have HD : H2 D = none := I2.hok.fresh (Nat.le_of_eq hD)
 have fpD : ∀ b ∈ fp, b ≠ D := fun b hb => vS (hD ▸ fplt b hb)
 have loop : ∀ s4 : Shared, s4 = { s2 with heap := h₁, toks := s2.toks + ([] : List (Str × Value)).length } →
  codeAny (model X.prog X.w) X.A (.compLoop (.ListComp elt [⟨tg, iter, ifs, 0⟩] scope pos) 0 (.ref it) (.ref D) (compEnvC scope (ij scope.names X.env []) (D + 1) X.env)) (RR (.ref D) (D + 1)) s4 := by
  rintro s4 rfl
  refine ke (fun k s' => y9 X ns cs scope D s2 H2 fp tn ds ys b tst fe ρ k s') ?_ ds.length ⟨0, kb ns.length cs σ, H2, [], [], [], by simp, Nat.zero_le _, I4, E4, T.keep _ _ _ st2 fun b hb o e => old b o e, fun b hb => (f2 b hb).1, HD, hacc, .nil, rfl, Nat.le_refl _, .refl H2, by rw [List.drop_zero, hm]; rfl⟩
  rintro k0 s5 ⟨i, σ5, H5, es, vs, its, rfl, hi5, I5, E5, t5, fr5, D5, l5, v5, r5, hel, e5, hz⟩
  have nC : ∀ b ∈ fp, b ≠ D + 1 := fun b hb => uK (hD ▸ fplt b hb)
  have DL : D ≠ (al X (ns ++ cs.map (·.1)) scope (D + 1) s2 H2 fp).env.locals := BU
  have Dcell : ∀ y c, (al X (ns ++ cs.map (·.1)) scope (D + 1) s2 H2 fp).env.cells.lookup y = some c → c ≠ D := fun y c e z => by
   obtain ⟨v, o, ho, hd⟩ := I5.cell y c e
   obtain ⟨n, q⟩ := l5
   subst z
   rw [q] at ho
   cases ho
   cases hd
  have Dfs : D ∉ (al X (ns ++ cs.map (·.1)) scope (D + 1) s2 H2 fp).fs := fun z => by
   rcases List.mem_cons.mp (I2.stkSub D z) with q | q
   · have z2 := I2.lt
     rw [hD] at z2
     exact vS z2 q.symm
   · exact I2.nofs (Nat.le_of_eq hD) q
  have Dp : nV (al X (ns ++ cs.map (·.1)) scope (D + 1) s2 H2 fp) [] H5 D := ⟨D5, DL, Dfs, .inr (Nat.le_of_eq hD), Dcell, fun p hp => absurd (show p ∈ ([] : List (Addr × Obj)) from hp) (by simp)⟩
  have Dob : ∀ b ∈ [D], ∃ o, s5.heap.get? b = some o ∧ ∀ v, o.data ≠ .cell v := fun b hb => by
   have e : b = D := by simpa using hb
   subst e
   obtain ⟨n, q⟩ := l5
   exact ⟨_, q, fun v z => by cases z⟩
  have I5p : Inv (al X (ns ++ cs.map (·.1)) scope (D + 1) s2 H2 fp) (br [D] s5.heap) σ5 H5 s5 := by
   have q := I5.pinned (fp := [D]) (fun b hb => by
    have e : b = D := by simpa using hb
    subst e; exact Dp) Dob
   rw [List.nil_append] at q
   exact q
  have ner : ∀ b ∈ fp, ∀ p ∈ br [D] s5.heap, p.1 ≠ b := fun b hb p hp z => by
   have e : p.1 = D := by simpa using (gg hp).1
   exact fpD b hb (z.symm.trans e)
  have fp5' : ∀ b ∈ fp, nV (al X (ns ++ cs.map (·.1)) scope (D + 1) s2 H2 fp) (br [D] s5.heap) H5 b := fun b hb => ⟨fr5 b hb, nC b hb, I4.ok.exfs b hb, .inl hb, (I4.ok.exf b hb).2, fun p hp => ner b hb p (by simpa [al] using hp)⟩
  have lenR : vs.length = es.length := r5.length
  have lenV : vs.length = its.length := v5.length
  by_cases hlt : i < ds.length
  · refine thn (T.item (al X (ns ++ cs.map (·.1)) scope (D + 1) s2 H2 fp) rfl rfl rfl hc i (br [D] s5.heap) s5 σ5 H5 _ I5p fp5' t5 (wk.go i H5 e5 hlt)) fun r s6 ⟨u, hr, h6⟩ => ?_
    subst hr
    refine thn h6 fun _ s7 ⟨xv, H7, I7, r7, y7, t7, fr7⟩ => ?_
    obtain ⟨e57, d, hd, rd⟩ := wk.yld i H5 xv H7 e5 hlt y7
    rw [gq hd] at hz
    have I7p := I7.pinned (fp := fp) (fun b hb => ⟨fr7 b hb, nC b hb, I4.ok.exfs b hb, .inl hb, (I4.ok.exf b hb).2, fun p hp => ner b hb p (by simpa [al] using hp)⟩) (T.obj _ _ t7)
    have fin : ∀ {σ8 : L2.St} {H8 : Hp} {s8 : Shared}, Inv (al X (ns ++ cs.map (·.1)) scope (D + 1) s2 H2 fp) (br [D] s5.heap ++ br fp s7.heap) σ8 H8 s8 → tn (i + 1) s8.heap ∧ (∀ b ∈ fp, H8 b = none) ∧ H8 D = none ∧ LAt s8.heap D its := fun {σ8 H8 s8} I8 => by
     refine ⟨T.keep _ _ _ t7 fun b hb o e => (I8.pin (b, o) (List.mem_append_right _ (List.mem_append_right _ (bf hb e)))).1, fun b hb => ?_, ?_, ?_⟩
     · obtain ⟨o, e, _⟩ := T.obj _ _ t7 b hb
       exact (I8.pin (b, o) (List.mem_append_right _ (List.mem_append_right _ (bf hb e)))).2.1
     · obtain ⟨n, q⟩ := l5
       exact (I8.pin (D, _) (List.mem_append_right _ (List.mem_append_left _ (bf (by simp) q)))).2.1
     · obtain ⟨n, q⟩ := l5
       exact ⟨n, (I8.pin (D, _) (List.mem_append_right _ (List.mem_append_left _ (bf (by simp) q)))).1⟩
    unfold eQ at hz
    match hb : b d (cZ ns.length cs ρ) with
    | none => rw [hb] at hz; exact hz.elim
    | some ρd =>
     rw [hb] at hz
     dsimp only at hz
     refine wpAny_mono ((htg (D + 1) s2 H2 fp).h _ s7 σ5 H7 xv u d (cZ ns.length cs ρ) ρd I7p r7 rd (E5.mono e57) hb) (fun _ s8 ⟨σ8, H8, I8, e78, E8⟩ => ?_) fun _ _ z => False.elim z
     have e58 := e57.trans e78
     have back : ∀ {σ9 : L2.St} {H9 : Hp}, Envs X.K H9 σ9 ρd → Envs X.K H9 σ9 (cZ ns.length cs ρ) := fun {σ9 H9} E9 => by
      have q := Envs.fgt js E9
      rw [hback ρ d ρd hb] at q
      exact q
     have took : ∀ {H9 : Hp} {s9 : Shared}, Inv (al X (ns ++ cs.map (·.1)) scope (D + 1) s2 H2 fp) (br [D] s5.heap ++ br fp s7.heap) σ8 H9 s9 → Same H8 H9 →
      (match (match fe ρd with | some (.ok y) => (match eQ b tst fe (cZ ns.length cs ρ) (ds.drop (i + 1)) with | some ys => some (y :: ys) | none => none) | _ => none) with | some zs => es ++ zs = ys | none => False) →
      wpAny (model X.prog X.w) X.A (eval elt (compEnvC scope (ij scope.names X.env []) (D + 1) X.env)) (fun xw s₄ =>
       wpAny (model X.prog X.w) X.A (call (.builtin "list.append") [.ref D, xw]) (fun _ s₅ => ∃ k, k < ds.length - i ∧ y9 X ns cs scope D s2 H2 fp tn ds ys b tst fe ρ k s₅) (notedBy (model X.prog X.w) X.A (compEnvC scope (ij scope.names X.env []) (D + 1) X.env) fun e s' => RR (.ref D) (D + 1) (.error e) s') s₄) (notedBy (model X.prog X.w) X.A (compEnvC scope (ij scope.names X.env []) (D + 1) X.env) fun e s' => RR (.ref D) (D + 1) (.error e) s') s9 := fun {H9 s9} I9 e9 hz9 => by
      match hfe : fe ρd, hz9 with
      | none, hz9 => exact hz9.elim
      | some (.exc c), hz9 => exact hz9.elim
      | some (.ok y), hz9 =>
       refine wpAny_mono ((helt (D + 1) s2 H2 fp).h _ s9 σ8 H9 (fun v H10 => Same H9 H10 ∧ Rep X.K H10 y v) I9 ⟨ρd, E8.mono e9, by rw [hfe]; exact fun v H10 e10 r10 => ⟨e10, r10⟩⟩) (fun w s10 ⟨yv, H10, I10, rw10, e10, r10⟩ => ?_) fun _ _ z => False.elim z
       obtain ⟨t10, fr10, D10, l10⟩ := fin I10
       refine oi l10 (by omega) fun h11 l11 k11 => ?_
       have I10' : Inv (al X (ns ++ cs.map (·.1)) scope (D + 1) s2 H2 fp) (br fp s7.heap) σ8 H10 s10 := I10.pins_of fun p hp => I10.pin p (List.mem_append_right _ (List.mem_append_right _ hp))
       have I11 : Inv (al X (ns ++ cs.map (·.1)) scope (D + 1) s2 H2 fp) (br fp s7.heap) σ8 H10 { s10 with heap := h11 } := I10'.turned (t' := s10.toks) k11 D10 DL (.inr (Nat.le_of_eq hD)) Dcell fun p hp z => by
        have hp' : p ∈ br fp s7.heap := by simpa [al] using hp
        exact fpD p.1 (gg hp').1 z
       have e80 := e9.trans e10
       refine ⟨ds.length - (i + 1), by omega, i + 1, σ8, H10, es ++ [y], vs ++ [yv], its ++ [w], rfl, hlt, I11.pins_of fun p hp => absurd hp (by simp), back (E8.mono e80), T.keep _ _ _ t10 fun b hb o e => k11 b o (fpD b hb) e, fr10, D10, l11, v5.append (.cons rw10 .nil), (Reps.mono (e58.trans e80) _ _ r5).append ⟨yv, [], rfl, r10, rfl⟩, by rw [List.length_append, List.length_singleton]; omega, e5.trans (e58.trans e80), ?_⟩
       match hm2 : eQ b tst fe (cZ ns.length cs ρ) (ds.drop (i + 1)), hz9 with
       | none, hz9 => exact hz9.elim
       | some zs, hz9 => dsimp only at hz9 ⊢; rw [List.append_assoc]; exact hz9
     have hif := hifs (D + 1) s2 H2 fp
     cases tst with
     | none =>
      cases (show ifs = [] from hif)
      exact wpAny_tests_nil (by rw [if_pos rfl]; exact took I8 (.refl H8) hz)
     | some t =>
      obtain ⟨c, rfl, hct⟩ := hif
      match htt : t ρd, hz with
      | none, hz => simp only [htt] at hz
      | some (.exc c), hz => simp only [htt] at hz
      | some (.ok true), hz =>
       simp only [htt] at hz
       refine wpAny_tests_one (wpAny_mono (hct.h _ s8 σ8 H8 (fun b H9 => b = true ∧ Same H8 H9) I8 ⟨_, E8, by rw [htt]; exact fun H9 e9 => ⟨rfl, e9⟩⟩) (fun b s9 ⟨H9, I9, hb, e9⟩ => ?_) fun _ _ z => False.elim z)
       subst hb
       rw [if_pos rfl]
       exact took I9 e9 hz
      | some (.ok false), hz =>
       simp only [htt] at hz
       refine wpAny_tests_one (wpAny_mono (hct.h _ s8 σ8 H8 (fun b H9 => b = false ∧ Same H8 H9) I8 ⟨_, E8, by rw [htt]; exact fun H9 e9 => ⟨rfl, e9⟩⟩) (fun b s9 ⟨H9, I9, hb, e9⟩ => ?_) fun _ _ z => False.elim z)
       subst hb
       rw [if_neg Bool.false_ne_true]
       obtain ⟨t9, fr9, D9, l9⟩ := fin I9
       exact ⟨ds.length - (i + 1), by omega, i + 1, σ8, H9, es, vs, its, rfl, hlt, I9.pins_of fun p hp => absurd hp (by simp), back (E8.mono e9), t9, fr9, D9, l9, v5, Reps.mono (e58.trans e9) _ _ r5, by omega, e5.trans (e58.trans e9), hz⟩
  · have hi' : i = ds.length := by omega
    subst hi'
    rw [List.drop_length] at hz
    have hz' : es ++ [] = ys := hz
    rw [List.append_nil] at hz'
    subst hz'
    refine thn (T.done (al X (ns ++ cs.map (·.1)) scope (D + 1) s2 H2 fp) rfl rfl rfl hc ds.length (br [D] s5.heap) s5 σ5 H5 _ I5p fp5' t5 (wk.stop H5 e5)) fun r s6 ⟨hr, I6⟩ => ?_
    subst hr
    have l6 : LAt s6.heap D its := by
     obtain ⟨n, q⟩ := l5
     exact ⟨n, (I6.pin (D, _) (List.mem_append_right _ (bf (by simp) q))).1⟩
    obtain ⟨m6, n6, _⟩ := I6.loc
    have C6 : H5 (D + 1) = none := I6.free
    have new : ObjOk X.prog X.w (upd H5 D (.lst vs)) s6.heap D (.lst vs) := by
     obtain ⟨n, q⟩ := l6
     exact ⟨by rw [lenR]; exact aY hyl, its, n, v5, q⟩
    have u6 : Un (frs X.stack) fp H2 H5 s2.heap s6.heap := I6.base
    have nD : ∀ b o, s2.heap.get? b = some o → b ≠ D := fun b o e => by
     have hb : b < D := by rw [← hD]; exact Heap.lt_size e
     exact vS hb
    have u7 : Un (frs X.stack) fp H2 (upd H5 D (.lst vs)) s2.heap s6.heap := ⟨u6.keep, u6.slot, fun b o e n hx => by rw [ao (nD b o e)]; exact u6.free b o e n hx, u6.there, fun b xs q => by
     have q' := u6.tups b xs q
     rw [ao (am q' D5)]; exact q', fun b o u q => by
     have q' := u6.frzs b o u q
     rw [ao (am q' D5)]; exact q', fun b ps q => by
     obtain ⟨more, q'⟩ := u6.tbls b ps q
     exact ⟨more, by rw [ao (am q' D5)]; exact q'⟩⟩
    have I7 : Inv X pins σ (upd H5 D (.lst vs)) s6 := I2.call' (s' := s6) (ch := fp) I6.os u7 (HOk.add I6.hok D5 C6 (fun b u _ q => q) new) I6.bare fun b hb => ⟨(f2 b hb).2.2.2.1, (f2 b hb).2.1, (f2 b hb).2.2.2.2.1, (f2 b hb).2.2.2.2.2⟩
    exact hRR D (D + 1) s6 H5 vs m6 I7 D5 e5 r5 n6 C6 (Ne.symm BU) (by rw [hD]; exact Nat.le_succ D)
 exact codeAny_compStart_list (loop _ rfl) (T.self _ 0 _ _ _ (T.keep _ _ _ st2 fun b hb o e => old b o e) (loop _ rfl))
def aA (m : Nat) (cs : List (Str × Nat)) (src : FnA) (b : Dv → Ev → Option Ev) (tst : Option FnB) (elt : FnE) : FnE := fun ρ => bnd (src ρ) fun ds => match eQ b tst elt (cZ m cs ρ) ds with
 | some ys => if ys.length ≤ 100000 ∧ ds.length ≤ 100000 then some (.ok (.lst ys)) else none
 | none => none
theorem Cc {m : Nat} {cs : List (Str × Nat)} {src : FnA} {b : Dv → Ev → Option Ev} {tst : Option FnB} {fe : FnE} {ρ : Ev} {o : Rs Dv} (h : aA m cs src b tst fe ρ = some o) :
 (∃ c, src ρ = some (.exc c) ∧ o = .exc c) ∨ ∃ ds ys, src ρ = some (.ok ds) ∧ eQ b tst fe (cZ m cs ρ) ds = some ys ∧ ds.length ≤ 100000 ∧ ys.length ≤ 100000 ∧ o = .ok (.lst ys) := by
 unfold aA at h
 match hf : src ρ with
 | none => rw [hf] at h; cases h
 | some (.exc c) => rw [hf] at h; cases h; exact .inl ⟨c, rfl, rfl⟩
 | some (.ok ds) =>
  rw [hf] at h
  dsimp only [bnd] at h
  match hm : eQ b tst fe (cZ m cs ρ) ds with
  | none => rw [hm] at h; cases h
  | some ys =>
   rw [hm] at h
   dsimp only at h
   split at h
   · rename_i hl
     cases h
     exact .inr ⟨ds, ys, rfl, hm, hl.2, hl.1, rfl⟩
   · cases h
theorem jf {X : Cx} {tg elt iter : Expr} {ifs : List Expr} {scope : Scope} {pos : Pos} {src : FnA} {tst : Option FnB} {fe : FnE} {b : Dv → Ev → Option Ev} (osc : Scope) (N ns : List Str) (js : List Nat) (cs : List (Str × Nat)) (hosc : X.env.scope = osc) (hN : X.N = N) (ok : eV osc scope cs N) (hcl : closureFor scope X.env = pure (ij scope.names X.env [])) (hc : X.calm = true)
 (hback : ∀ ρ d ρ', b d (cZ ns.length cs ρ) = some ρ' → fgt js ρ' = cZ ns.length cs ρ)
 (hi : FIG X tg iter src) (htg : ∀ C s H fp, FG (al X (ns ++ cs.map (·.1)) scope C s H fp) tg b) (helt : ∀ C s H fp, FE (al X (ns ++ cs.map (·.1)) scope C s H fp) elt fe) (hifs : ∀ C s H fp, oN (al X (ns ++ cs.map (·.1)) scope C s H fp) ifs tst)
 (hs : ∀ x, foldedSetIterable iter X.env x = pure x := by intro _; kernel_rfl) : FE X (.ListComp elt [⟨tg, iter, ifs, 0⟩] scope pos) (aA ns.length cs src b tst fe) := by
 subst hosc hN
 constructor
 intro pins s σ H Q I h
 obtain ⟨ρ, E, o⟩ := h
 match ho : aA ns.length cs src b tst fe ρ with
 | none => rw [ho] at o; exact o.elim
 | some r =>
  rw [ho] at o
  rw [eval_ListComp]
  have key : OutG X H (src ρ) fun J H' => ∃ ds ys, Same H H' ∧ WkG X.K J ds H' ∧ ds.length ≤ 100000 ∧ ys.length ≤ 100000 ∧ eQ b tst fe (cZ ns.length cs ρ) ds = some ys ∧ (∀ v H'', Same H' H'' → Rep X.K H'' (.lst ys) v → Q v H'') := by
   rcases Cc ho with ⟨c, e1, e2⟩ | ⟨ds, ys, e1, e2, l1, l2, e3⟩
   · subst e2; rw [e1]; exact o
   · subst e3; rw [e1]; exact fun J H' e wk => ⟨ds, ys, e, wk, l1, l2, e2, fun v H'' e2 r => o v H'' (e.trans e2) r⟩
  refine wpAny_comprehension_free (use := none) rfl hs hcl ok.kind ok.names (thn (hi.h pins s σ H _ I ⟨ρ, E, key⟩) fun v s1 h1 => thn h1 fun itv s2 h2 => ?_)
  obtain ⟨it, fp, tn, J, H2, e, I2, T, st2, f2, ds, ys, e12, wk, hdl, hyl, hm, hQ⟩ := h2
  subst e
  refine kg cs ok hc htg helt hifs hback (E.mono e12) I2 T st2 f2 wk hdl hyl hm (RR := fun acc C => compPost (model X.prog X.w) X.A X.xe none (EP X pins σ Q) acc C) fun D C s6 H5 vs m6 I6 D5 e5 r5 n6 C6 CD hC => ?_
  refine ⟨m6, n6, fun h7 sb7 => ?_⟩
  have Cn : (upd H5 D (.lst vs)) C = none := by rw [ao CD]; exact C6
  obtain ⟨q0, q1, q2, q3, q4, q5⟩ := I2.fpOk hC Cn
  have I7 : Inv X pins σ (upd H5 D (.lst vs)) { s6 with heap := h7 } := I6.turned (t' := s6.toks) (fun b o hb e => sb7.extBut b o hb e) q0 q1 q3 q4 q5
  exact ⟨.ref D, _, I7, rfl, hQ _ _ (e5.trans (aj D5 _)) ⟨D, vs, rfl, ai, Reps.mono (aj D5 _) _ _ r5⟩⟩
theorem wg (cs : List (Str × Nat)) (ρ : Ev) (d : Dv) (ρ' : Ev) (h : gN 0 d (cZ 1 cs ρ) = some ρ') : fgt [0] ρ' = cZ 1 cs ρ := by
 cases h
 rfl
theorem za (cs : List (Str × Nat)) (ρ : Ev) (d : Dv) (ρ' : Ev) (h : gP 0 1 d (cZ 2 cs ρ) = some ρ') : fgt [0, 1] ρ' = cZ 2 cs ρ := by
 unfold gP at h
 split at h
 · cases h
   rfl
 · cases h
def Ite (K : PySem.W.Frag) (a : Addr) : It :=
 ⟨fun i H => ∃ xs x, SqL K H a xs ∧ xs[i]? = some x, fun i H v H' => ∃ p x, v = .ref p ∧ H p = none ∧ H' = upd H p (.tup [.int i, x]) ∧ ∀ xs, SqL K H a xs → xs[i]? = some x, fun i H => ∃ xs, SqL K H a xs ∧ xs.length ≤ i⟩
theorem pQ {P : Program} {w : World} {K : PySem.W.Frag} {es : List Expr} {k : Nat} {pos : Pos} (a e it : Addr) (hne : e ≠ it) : uB P w K (.Tuple es k pos) (Ite K a) [e, it] e (fun i h => (∃ old, IsEnum h e it i old) ∧ h.IsListIter it a i) where
 mem := by simp
 obj := fun i h st b hb => by
  obtain ⟨⟨old, he⟩, o, e2, c, d⟩ := st
  have hb' : b = e ∨ b = it := by simpa using hb
  rcases hb' with rfl | rfl
  · exact ⟨_, he, fun v z => by cases z⟩
  · exact ⟨o, e2, fun v z => by rw [d] at z; cases z⟩
 keep := fun i h h' st kk => by
  obtain ⟨⟨old, he⟩, st2⟩ := st
  exact ⟨⟨old, kk e (by simp) _ he⟩, st2.at fun o ee => kk it (by simp) o ee⟩
 item := by
  intro X hP hw hK hc i pins s σ H E I hf st hg
  subst hP hw hK
  obtain ⟨xs, x, hq, hx⟩ := hg
  obtain ⟨its, rv, p, hz⟩ := I.list hq
  obtain ⟨u, hu, ru⟩ := rv.get hx
  obtain ⟨⟨old, he⟩, st2⟩ := st
  obtain ⟨f0, f1, f2, f3, f4, f5⟩ := hf e (by simp)
  obtain ⟨g0, g1, g2, g3, g4, g5⟩ := hf it (by simp)
  refine wpAny_pyNext_enum_item he st2 p.isList (x := u) (by simpa using hu) hne fun h' eo st' tp sz kk => ?_
  refine ⟨_, rfl, wpAny_letOwnedTupleGo_enum eo fun h2 he2 sb2 => ?_⟩
  have hp : H s.heap.objs.size = none := I.hok.fresh (Nat.le_refl _)
  have elt : e < s.heap.objs.size := Heap.lt_size he
  have k2 : ∀ b o, b ∉ [e, it] → s.heap.get? b = some o → h2.get? b = some o := fun b o hb q => sb2.extBut b o (fun z => hb (by simp [z])) (kk b o (fun z => hb (by simp [z])) (fun z => hb (by simp [z])) q)
  have tp2 : h2.get? s.heap.objs.size = some { cls := .type "tuple", data := .seq #[.int i s.toks, u] } := sb2.extBut _ _ (Nat.ne_of_gt elt) tp
  have I1 : Inv X pins σ (upd H s.heap.objs.size (.tup [.int i, x])) { s with heap := h2, toks := s.toks + 1 } := by
   have nt : ∀ b u, H b = some u → b ∉ [e, it] := fun b u q z => by
    have z' : b = e ∨ b = it := by simpa using z
    rcases z' with rfl | rfl
    · rw [f0] at q; cases q
    · rw [g0] at q; cases q
   refine I.step (g' := s.gens) (d' := s.drawn) (ch := [e, it]) (fun b hb => ?_) (fun b o _ _ hcb q _ => k2 b o hcb q) (fun b o _ _ hcb q _ => ⟨o.slots, k2 b o hcb q⟩) (fun b o hcb q n => ?_) (fun b o hcb q => ⟨o, k2 b o hcb q⟩)
    (fun b ys q => by rw [ao (am q hp)]; exact q) (fun b o ys q => by rw [ao (am q hp)]; exact q) (fun b ps q => ⟨#[], by rw [ao (am q hp), q]; simp⟩) (fun m hm => ?_) (fun b u2 q => ?_) I.bare
   · have z' : b = e ∨ b = it := by simpa using hb
     rcases z' with rfl | rfl
     · exact ⟨f3, f1, f4, f5⟩
     · exact ⟨g3, g1, g4, g5⟩
   · rw [ao (Nat.ne_of_lt (Heap.lt_size q))]; exact n
   · obtain ⟨o, es', ep, ho, r⟩ := hm
     exact ⟨o, es', ep, k2 _ o (fun z => by
      have z' : X.env.locals = e ∨ X.env.locals = it := by simpa using z
      rcases z' with z' | z'
      · exact f1 z'.symm
      · exact g1 z'.symm) ho, r⟩
   · by_cases hb : b = s.heap.objs.size
     · subst hb
       rw [ai] at q
       cases q
       exact ⟨by show 2 ≤ sizeLine; decide, [.int i s.toks, u], .cons ⟨_, rfl⟩ (.cons ru .nil), ⟨_, tp2, rfl, _, rfl⟩⟩
     · rw [ao hb] at q
       refine (I.hok b u2 q).stay (fun c v hcv qq => k2 c v ?_ qq) (fun c qq => by rw [ao (am qq hp)]; exact qq) fun c ys qq => by rw [ao (am qq hp)]; exact qq
       rcases hcv with rfl | hcv
       · exact nt _ _ q
       · exact nt _ _ hcv
  refine ⟨.ref s.heap.objs.size, _, I1, rfl, ⟨_, x, rfl, hp, rfl, fun zs hy => by rw [I.list_inj hy hq]; exact hx⟩, ⟨⟨_, by simpa using he2⟩, ?_⟩, fun b hb => ?_⟩
  · exact st'.at fun o q => sb2.extBut _ _ (Ne.symm hne) q
  · have z' : b = e ∨ b = it := by simpa using hb
    rcases z' with rfl | rfl
    · rw [ao (Nat.ne_of_lt elt)]; exact f0
    · obtain ⟨o, q, _⟩ := id st2
      rw [ao (Nat.ne_of_lt (Heap.lt_size q))]; exact g0
 done := by
  intro X hP hw hK hc i pins s σ H E I hf st hg
  subst hP hw hK
  obtain ⟨xs, hq, hx⟩ := hg
  obtain ⟨its, rv, p, hz⟩ := I.list hq
  obtain ⟨⟨old, he⟩, st2⟩ := st
  obtain ⟨g0, g1, g2, g3, g4, g5⟩ := hf it (by simp)
  have hl := rv.length
  exact wpAny_pyNext_enum_end (I.ok.hd hc) he st2 p.isList (by simp; omega) fun h' eb => ⟨rfl, I.turned (t' := s.toks) (fun b o hb e => eb b o hb e) g0 g1 g3 g4 g5⟩
 self := fun _ _ _ _ _ st h => by
  obtain ⟨⟨old, he⟩, _⟩ := st
  exact wpAny_pyIter_enum he h
def eW : Nat → List Dv → List Dv
 | _, [] => []
 | k, d :: ds => .tup [.int k, d] :: eW (k + 1) ds
theorem c0 : ∀ (ds : List Dv) (k : Nat), (eW k ds).length = ds.length
 | [], _ => rfl
 | d :: ds, k => by show (eW (k + 1) ds).length + 1 = ds.length + 1; rw [c0]
theorem kh : ∀ (ds : List Dv) (k i : Nat) (d : Dv), ds[i]? = some d → (eW k ds)[i]? = some (.tup [.int ((k + i : Nat) : Int), d])
 | [], _, _, _, h => by simp at h
 | d :: ds, k, 0, d', h => by simp at h; subst h; rfl
 | d :: ds, k, i + 1, d', h => by
  have q := kh ds (k + 1) i d' (by simpa using h)
  show (Dv.tup [.int k, d] :: eW (k + 1) ds)[i + 1]? = _
  rw [List.getElem?_cons_succ, q]
  have e : k + 1 + i = k + (i + 1) := by omega
  rw [e]
theorem wj {K : PySem.W.Frag} {H : Hp} {a : Addr} {xs : List V} {ds : List Dv} (h : H a = some (.lst xs)) (r : Reps K H ds xs) : WkG K (Ite K a) (eW 0 ds) H where
 go := fun i H' e hi => by
  rw [c0] at hi
  have hx : i < xs.length := by rw [r.length]; exact hi
  exact ⟨xs, xs[i], SqL.of (e _ _ h), by simp [hx]⟩
 stop := fun H' e => ⟨xs, SqL.of (e _ _ h), by rw [r.length, c0]; exact Nat.le_refl _⟩
 yld := fun i H' v H2 e hi y => by
  obtain ⟨p, x, rfl, hp, rfl, y⟩ := y
  obtain ⟨d, h1, h2⟩ := Reps.get (Reps.mono e _ _ r) (y xs (SqL.of (e _ _ h)))
  have q := kh ds 0 i d h1
  rw [Nat.zero_add] at q
  exact ⟨aj hp _, _, q, ⟨p, _, rfl, ai, ⟨.int i, [x], rfl, rfl, x, [], rfl, Rep.mono (aj hp _) _ _ h2, rfl⟩⟩⟩
def sZ : List Dv → Option (Rs (List Dv))
 | [.lst ds] => some (.ok (eW 0 ds))
 | _ => none
theorem s0 {X : Cx} {es : List Expr} {k : Nat} {pt p pos : Pos} {l : Expr} {ga : FnA} (hg : Gl X "enumerate") (hm : X.mg "enumerate" = none) (ha : FA X [l] ga) (hs : starEach [l] X.env = [(false, eval l X.env)] := by kernel_rfl) : FIG X (.Tuple es k pt) (.Call (.Name "enumerate" p) [l] [] pos) (fun ρ => bnd (ga ρ) sZ) := by
 constructor
 intro pins s σ H R I h
 obtain ⟨ρ, E, o⟩ := h
 have key : OutA X H (ga ρ) fun vs H' => ∃ ds, Reps X.K H' ds vs ∧ OutG X H' (sZ ds) R := by
  match hf : ga ρ, o with
  | some (.exc c), o => exact o
  | some (.ok ds), o => exact fun vs H' e rs => ⟨ds, rs, OutG.mono e o⟩
 refine Call_ (cW I hg hm (show bootBuiltins "enumerate" = some (.type "enumerate") by decide +kernel) (PyProof.Rows.callWith_type1 (thn (ha.h pos pins s σ H _ I ⟨ρ, E, key⟩) fun us s1 ⟨vs, H1, I1, r1, ds, rs, q1⟩ => ?_) hs rfl))
 unfold sZ at q1
 split at q1
 · rename_i xs
   obtain ⟨v, rfl, rv⟩ := bx rs
   obtain ⟨a, ws, rfl, h1, h2⟩ := rv.lstE
   obtain ⟨u, rfl, ru⟩ := b5 r1
   cases ru
   obtain ⟨its, rv', pl, hz⟩ := I1.list (SqL.of h1)
   refine call_enumerate_list pl.isList fun h' he hit hsz kk => ?_
   refine wpAny_pyIter_enum he ?_
   have I2 : Inv X pins σ H1 { s1 with heap := h' } := I1.kept (t' := s1.toks) kk
   refine ⟨s1.heap.objs.size + 1, [s1.heap.objs.size + 1, s1.heap.objs.size], _, Ite X.K a, H1, rfl, I2, pQ a _ _ (Nat.succ_ne_self _), ⟨⟨_, he⟩, hit⟩, fun b hb => ?_, q1 _ H1 (.refl H1) (wj h1 h2)⟩
   have hb' : b = s1.heap.objs.size + 1 ∨ b = s1.heap.objs.size := by simpa using hb
   rcases hb' with rfl | rfl
   · exact I1.fpOk (Nat.le_succ _) (I1.hok.fresh (Nat.le_succ _))
   · exact I1.fpOk (Nat.le_refl _) (I1.hok.fresh (Nat.le_refl _))
 · exact q1.elim
section
variable {X : Cx} {pos p1 : Pos}
end
theorem aq {a b : FnS} {ρ ρ' : Ev} (h : a ρ = some (.nx ρ')) : aJ a b ρ = b ρ' := by
 unfold aJ; rw [h]; rfl
theorem bd {c : FnB} {f : FnS} {ρ : Ev} (h : c ρ = some (.ok false)) : bw c f (fun ρ => some (.nx ρ)) ρ = some (.nx ρ) := by
 unfold bw; rw [h]; rfl
theorem a5 {i : Nat} {v : FnE} {ρ ρ' : Ev} {d : Dv} (h : v ρ = some (.ok d)) (e : ρ.set i (some d) = ρ') : bF i v ρ = some (.nx ρ') := by
 unfold bF; rw [h, ← e]; rfl
theorem dk {v : FnE} {ρ : Ev} {d : Dv} (h : v ρ = some (.ok d)) : gp v ρ = some (.nx ρ) := by
 unfold gp; rw [h]; rfl
theorem c4 {v : FnE} {ρ : Ev} {d : Dv} (h : v ρ = some (.ok d)) : aF v ρ = some (.rt d) := by
 unfold aF; rw [h]; rfl
theorem jg {i : Nat} {js : List Nat} {src : FnA} {body : FnS} {ρ : Ev} {ds : List Dv} (h : src ρ = some (.ok ds)) : mN i js src body ρ = ei i js body ds ρ := by
 unfold mN; rw [h]; rfl
theorem wl {a b : FnB} {ρ : Ev} (h : a ρ = some (.ok false)) : bOr a b ρ = b ρ := by unfold bOr; rw [h]; rfl
theorem pR {a : FnB} {ρ : Ev} {k : Bool} (h : a ρ = some (.ok k)) : dA a ρ = some (.ok (!k)) := by unfold dA; rw [h]; rfl
theorem bT {f : FnE} {ρ : Ev} {k : Bool} (h : f ρ = some (.ok (.bl k))) : fB f ρ = some (.ok k) := by unfold fB; rw [h]; rfl
theorem bH {g : Dv → Dv → Option (Rs Dv)} {f h : FnE} {ρ : Ev} {x y : Dv} (hf : f ρ = some (.ok x)) (hh : h ρ = some (.ok y)) : f2 g f h ρ = g x y := by unfold f2; rw [hf, hh]; rfl
theorem pS {i : Nat} {ρ : Ev} {d : Dv} (h : ρ[i]? = some (some d)) : ab i ρ = some (.ok d) := by unfold ab; rw [h]
theorem ae {f : FnE} {g : FnA} {ρ : Ev} {x : Dv} {xs : List Dv} (h : f ρ = some (.ok x)) (t : g ρ = some (.ok xs)) : aa f g ρ = some (.ok (x :: xs)) := by unfold aa; rw [h, t]; rfl
theorem av {ρ : Ev} : ag ρ = some (.ok []) := rfl
theorem bC {F : List Dv → Option (Rs Dv)} {n : Nat} {g : FnA} {ρ : Ev} {ds : List Dv} {d : Dv} (h : g ρ = some (.ok ds)) (hl : ds.length = n) (hF : F ds = some (.ok d)) : ah F n g ρ = some (.ok d) := by
 unfold ah; rw [h]
 show (if _ then _ else _) = _
 rw [if_pos hl, hF]
theorem gs (F : List Dv → Option (Rs Dv)) {f : FnE} {ρ : Ev} {a d : Dv} (h : f ρ = some (.ok a)) (hF : F [a] = some (.ok d)) : ah F 1 (aa f ag) ρ = some (.ok d) := bC (ae h av) rfl hF
theorem fV (F : List Dv → Option (Rs Dv)) {f g : FnE} {ρ : Ev} {a b d : Dv} (h : f ρ = some (.ok a)) (h' : g ρ = some (.ok b)) (hF : F [a, b] = some (.ok d)) : ah F 2 (aa f (aa g ag)) ρ = some (.ok d) := bC (ae h (ae h' av)) rfl hF
theorem pU {g : FnA} {ρ : Ev} {ds : List Dv} (h : g ρ = some (.ok ds)) (hl : ds.length ≤ 100000) : dh g ρ = some (.ok (.tup ds)) := by
 unfold dh; rw [h]
 show (if _ then _ else _) = _
 rw [if_pos hl]
theorem zb {f g : FnE} {ρ : Ev} (h : f ρ = some (.ok (.bl false))) : iZ f g ρ = some (.ok (.bl false)) := by unfold iZ; rw [h]; rfl
theorem zc {f g : FnE} {ρ : Ev} (h : f ρ = some (.ok (.bl true))) : iZ f g ρ = g ρ := by unfold iZ; rw [h]; rfl
theorem bt {g : List Dv → Option (Rs Dv)} {a : FnA} {ρ : Ev} {ds : List Dv} (h : a ρ = some (.ok ds)) : fB1 g a ρ = g ds := by unfold fB1; rw [h]; rfl
theorem dB {n : Nat} {B : FnS} {ds : List Dv} {d : Dv} (h : B (ds.map some ++ List.replicate (n - ds.length) none) = some (.rt d)) : aZ n B ds = some (.ok d) := by
 unfold aZ; rw [h]
section
variable {prog : Program} {w : World} {A : Around} {E : Value → Shared → Prop}
end
section
variable {X : Cx} {pos p1 : Pos}
end
structure Aft (X : Cx) (e : Addr) (Ts : List Addr) (h h' : Heap) : Prop where
 keep : ∀ b o, h.get? b = some o → b ≠ e → b ∉ Ts → b ∉ frs X.stack → h'.get? b = some o
 slot : ∀ b o, h.get? b = some o → b ∈ frs X.stack → ∃ sl, h'.get? b = some { o with slots := sl }
section
variable {X : Cx} {pins : List (Addr × Obj)} {σ : L2.St} {H : Hp} {s : Shared} {e : Addr} {Ts : List Addr} {h' : Heap}
theorem Aft.any {h : Heap} (A : Aft X e Ts h h') {b : Addr} {o : Obj} (q : h.get? b = some o) (n1 : b ≠ e) (n2 : b ∉ Ts) : ∃ sl, h'.get? b = some { o with slots := sl } := by
 by_cases hb : b ∈ frs X.stack
 · exact A.slot b o q hb
 · exact ⟨o.slots, A.keep b o q n1 n2 hb⟩
end
section
variable {X : Cx} {pins : List (Addr × Obj)} {σ : L2.St} {H : Hp} {s : Shared} {e : Addr} {cls : Value}
theorem Fly.imp {N N' : Addr → Prop} {h : Heap} (F : Fly N H e cls h) (k : ∀ a, N a → N' a) : Fly N' H e cls h := by
 obtain ⟨h1, h2, oe, vs, a0, q1, q2, q3, q4, q5⟩ := F
 refine ⟨h1, k _ h2, oe, vs, a0, q1, q2, q3, q4, ?_⟩
 rcases q5 with q5 | ⟨T, oT, ts, r1, r2, r3, r4, r5⟩
 · exact .inl q5
 · exact .inr ⟨T, oT, ts, r1, r2, r3, k _ r4, r5⟩
end
def CXE (P : Program) (w : World) : CXT := fun outer H s E ev s' => ∃ e cls H', ev = .ref e ∧ s'.os = s.os ∧ AllBare s'.gens ∧ Un (frs outer) [] H H' s.heap s'.heap ∧ HOk P w H' s'.heap ∧ Fly (fun a => s.heap.get? a = none) H' e cls s'.heap ∧ E cls none H'
def spE (K : PySem.W.Frag) (F : List Dv → Option (Rs Dv)) (n : Nat) : Sp := fun vs H Q E => ∃ ds, Reps K H ds vs ∧ ds.length = n ∧ match F ds with
 | some (.ok d) => ∀ v H', Same H H' → Rep K H' d v → Q v H'
 | some (.exc c) => ∀ C H', PySem.W.nsIn K mainGlobals (xnm c) = some (some (.ref C)) → Same H H' → E (.ref C) none H'
 | none => False
def DZ (P : Program) (w : World) (K : PySem.W.Frag) (mg : Str → Option Value) (base : Heap) (x : Str) (k : Nat) (ps : List Str) (F : List Dv → Option (Rs Dv)) : Prop :=
 ∃ f fd, FnOk P w K mg base (CXE P w) k f fd ps (spE K F ps.length) ∧ mg x = some (.ref f) ∧ PySem.W.keepIn K (.ref f) = true ∧ Binds K fd ps []
section
variable {X : Cx} {k n : Nat} {ps : List Str} {x : Str} {p pos : Pos} {e : Expr} {es : List Expr} {F : List Dv → Option (Rs Dv)} {g : FnA}
end
theorem jh {P : Program} {w : World} {H : Hp} {h : Heap} (ok : HOk P w H h) {a : Addr} {u : HO} (q : H a = some u) : ∃ o, h.get? a = some o := by
 have hk := ok a u q
 clear q
 induction u with
 | lst xs => obtain ⟨_, _, _, _, z⟩ := hk; exact ⟨_, z⟩
 | tup xs => obtain ⟨_, _, _, o, z, _⟩ := hk; exact ⟨_, z⟩
 | dK kvs => obtain ⟨_, _, _, _, o, _, _, z, _⟩ := hk; exact ⟨_, z⟩
 | dT kvs => obtain ⟨_, _, _, _, o, _, _, z, _⟩ := hk; exact ⟨_, z⟩
 | set S n => obtain ⟨o, _, _, _, z, _⟩ := hk; exact ⟨_, z⟩
 | ins C dx fs => obtain ⟨_, _, _, z, _⟩ := hk; exact ⟨_, z⟩
 | own y => obtain ⟨_, z⟩ := hk; exact ⟨_, z⟩
 | xd fs => obtain ⟨_, ⟨_, _, _, z, _⟩, _⟩ := hk; exact ⟨_, z⟩
 | rng lo hi => obtain ⟨_, _, _, z⟩ := hk; exact ⟨_, z⟩
 | frz ob u ih => obtain ⟨z, _⟩ := hk; exact ⟨_, z⟩
 | tbl ps => exact ⟨_, (show h.get? a = some _ from hk)⟩
 | met f y => exact ⟨_, (show h.get? a = some _ from hk)⟩
 | ext φ => obtain ⟨_, ⟨_, z⟩, _⟩ := hk; exact ⟨_, z⟩
theorem zd {P : Program} {w : World} {H : Hp} {h : Heap} (ok : HOk P w H h) {a : Addr} (n : h.get? a = none) : H a = none := by
 cases q : H a with
 | none => rfl
 | some u =>
  obtain ⟨o, z⟩ := jh ok q
  rw [n] at z
  cases z
abbrev bmV : List Value := [.type "ValueError", .type "Exception", .type "BaseException", .type "object"]
structure XC (K : PySem.W.Frag) (c : Nat) (C : Addr) : Prop where
 nm : PySem.W.nsIn K mainGlobals (xnm c) = some (some (.ref C))
 ex : PySem.W.excIn K C bmV "ValueError.__new__" = true
section
variable {X : Cx} {a : Expr} {fa : FnE} {np cpos pos : Pos} {x : Str} {C : Addr}
end
end FD
namespace FD
open PySem PySem.Spec PyProof.Rows L2 PySem.W Builtin.Getset_descriptor
section
variable {prog : Program} {w : World} {A : Around} {E : Value → Shared → Prop} {s : Shared} {K : PySem.W.Frag} {x C : Addr} {ox : Obj}
structure XI (K : PySem.W.Frag) (C : Addr) : Prop where
 ga : findIn K (.ref C) "__getattribute__" = some (some (.builtin "BaseException.__getattribute__"))
 gt : findIn K (.ref C) "__getattr__" = some none
 cl : findIn K (.ref C) "__class__" = some (some (.builtin "object.__class__"))
 sp : specialIn K (.builtin "object.__class__") "__get__" = some (some (.builtin "getset_descriptor.__get__"))
 tk : takesIn K (.builtin "object.__class__") = some true
 ob : mroIn K C (.type "object") = some true
 be : mroIn K C (.type "BaseException") = some true
end
section
variable {X : Cx} {p pos pT : Pos} {a : Expr} {fa : FnE} {T : Str}
end
end FD
namespace FD
open PySem PySem.Spec PyProof.Rows L2 PySem.W
section
variable {X : Cx} {pins : List (Addr × Obj)} {σ : L2.St} {H : Hp} {s : Shared}
end
structure RoomM (k : Nat) (A : Around) : Prop where
 dp : A.depth + 3 * k + 5 < recursionLimit
 un : A.units + 16 * k + 200 < cLine
theorem RoomM.of {k : Nat} {A : Around} (r : Room k A) : RoomM k A := ⟨r.dp, r.un⟩
theorem RoomM.mono {j k : Nat} {A : Around} (r : RoomM k A) (h : j ≤ k) : RoomM j A := ⟨by have := r.dp; omega, by have := r.un; omega⟩
theorem RoomM.deeper {k : Nat} {A : Around} (r : RoomM (k + 1) A) (env : Env) : RoomM k (A.deeper env) :=
 ⟨by have := r.dp; show A.depth + 1 + 3 * k + 5 < _; omega, by have := r.un; show A.units + 3 + 16 * k + 200 < _; omega⟩
theorem RoomM.units {k : Nat} {A : Around} (r : RoomM k A) : A.units + 64 < cLine := by have := r.un; omega
structure FnM (P : Program) (w : World) (K : PySem.W.Frag) (mg : Str → Option Value) (base : Heap) (k : Nat) (f : Addr) (fd : FuncData) (ps : List Str) (F : List Dv → Option (Rs Dv)) : Prop where
 run : ∀ (A : Around) (outer : List Env) (s : Shared) (H : Hp) (args : Args) (us : List Value) (vs : List V) (ds : List Dv) (d : Dv) (Q : VK), RoomM k A → Env0 P w K mg base A outer s H → BindsTo s fd args (ps.zip us) → Vals vs us →
  Reps K H ds vs → ds.length = ps.length → F ds = some (.ok d) → (∀ v H', Same H H' → Rep K H' d v → Q v H') → codeAny (model P w) A (.call (.ref f) args) (CR CX0 outer P w H s Q E0) s
def D4 (P : Program) (w : World) (K : PySem.W.Frag) (mg : Str → Option Value) (base : Heap) (x : Str) (k : Nat) (ps : List Str) (F : List Dv → Option (Rs Dv)) : Prop :=
 ∃ f fd, FnM P w K mg base k f fd ps F ∧ mg x = some (.ref f) ∧ PySem.W.keepIn K (.ref f) = true ∧ Binds K fd ps []
section
variable {X : Cx} {x : Str} {p pos : Pos} {e : Expr} {es : List Expr} {g : FnA} {n : Nat}
end
section
variable {X : Cx} {pl ps : List (Addr × Obj)} {σ : L2.St} {H : Hp} {s : Shared} {E : Value → Shared → Prop} {e : Addr}
end
section
variable {X : Cx} {ex hx : Expr} {f g : FnE} {J n : Str} {CJ : Addr} {np rp rp2 hpos pos : Pos}
end
end FD
namespace FD
open PySem PySem.Spec PyProof.Rows L2
def Be : List Dv → List Dv → Option (Rs Dv)
 | xs, [x] => if cu x && xs.all cu && decide (xs.length ≤ 100000) then some (.ok (.int (xs.countP (fun y => eqF y x) : Nat))) else none
 | _, _ => none
def ze : V → List V → Hp → VK → Prop := fun x xs H Q => ∃ a vs y, x = .ref a ∧ xs = [y] ∧ H a = some (.lst vs) ∧ cU y = true ∧ vs.all cU = true ∧ vs.length ≤ 100000 ∧ Q (.int (vs.countP (fun v => eqV v y) : Nat)) H
section
variable {X : Cx} {apos cpos : Pos} {e o : Expr} {es : List Expr} {ga : FnA} {fo : FnE}
theorem iu {y : V} : ∀ {vs : List V} {its : List Value}, Vals vs its → vs.all cU = true → its.countP (eqU y) = vs.countP fun v => eqV v y
 | _, _, .nil, _ => rfl
 | _, _, .cons (a := v) (b := u) r t, f => by
  rw [List.all_cons, Bool.and_eq_true] at f
  rw [List.countP_cons, List.countP_cons, iu t f.2, mK r f.1]
theorem pV : MtR X "list.count" ze := by
 intro pins s σ H x xs v us Q I rx rs h
 obtain ⟨a, vs, y, rfl, rfl, h1, fy, fv, hz, q⟩ := h
 cases rx
 obtain ⟨u, rfl, ru⟩ := b5 rs
 obtain ⟨z, its, n, rv, hl, e⟩ := I.lstM h1
 refine call_meets PySem.F.slot_list_count ⟨_, e, rfl⟩ PySem.F.entry_list_count (PySem.F.args_list_count_2 _ _) (SeqAt.list_countAt a its.toArray n none #[] u (eqU y)) ⟨e, fun t ht => cH ru fy rv fv t (by simpa using ht), ⟨.int (vs.countP (fun v => eqV v y) : Nat), H, I.tok _, ⟨s.toks, ?_⟩, q⟩⟩
 have := iu (y := y) rv fv
 rw [List.toList_toArray, this]
theorem uR {K : PySem.W.Frag} {H : Hp} {x : Dv} {u : V} (q : Rep K H x u) (hx : cu x = true) : ∀ {xs : List Dv} {vs : List V}, Reps K H xs vs → xs.all cu = true → vs.countP (fun v => eqV v u) = xs.countP fun y => eqF y x
 | [], vs, r, _ => by cases (show vs = [] from r); rfl
 | y :: ys, vs, r, f => by
  obtain ⟨v, ws, rfl, r1, r2⟩ : ∃ v us, vs = v :: us ∧ Rep K H y v ∧ Reps K H ys us := r
  rw [List.all_cons, Bool.and_eq_true] at f
  rw [List.countP_cons, List.countP_cons, uR q hx r2 f.2, pK r1 q f.1 hx]
theorem td (ho : FE X o fo) (ha : FA X (e :: es) ga)
 (hbase : attributeBase o "count" X.env (eval o X.env) = eval o X.env := by kernel_rfl)
 (hfew : ((backTo cpos (starEach (e :: es) X.env)).all (fun x => !x.1) && (backToKw cpos (keywordEach [] X.env)).all (fun x => x.1.isSome)
   && decide ((e :: es).length + ([] : List Keyword).length + (if ([] : List Keyword).isEmpty then 0 else 1) < 30)) = true := by kernel_rfl)
 (hline : (apos.endLine == cpos.line) = true := by kernel_rfl) (hs : starEach (e :: es) X.env = (false, eval e X.env) :: starEach es X.env := by kernel_rfl) (hplain : (backTo cpos (starEach es X.env)).any (·.1) = false := by kernel_rfl) :
 FE X (.Call (.Attribute o "count" apos) (e :: es) [] cpos) (fML Be fo ga) :=
 bu (sH PySem.F.plainAttrs_list PySem.F.slot_list_count PySem.F.type_list_count pV ho.h ha.h hbase hfew hline hs hplain) fun σ H Q ρ E o => ⟨ρ, E, Out.bind o fun d v H1 e1 rd o1 => by
  cases d <;> try exact (show False from o1).elim
  rename_i ds
  obtain ⟨a, vs, rfl, h1, h2⟩ := rd.lstE
  refine ⟨.inl ⟨rfl, vs, SqL.of h1⟩, ρ, E.mono e1, OutA.bind o1 fun es ws H2 e2 rs o2 => ?_⟩
  unfold Be at o2
  split at o2
  · rename_i x
    split at o2
    · rename_i hc
      rw [Bool.and_eq_true, Bool.and_eq_true] at hc
      obtain ⟨w, rfl, rw'⟩ := bx rs
      have h2' := Reps.mono e2 _ _ h2
      refine ⟨a, vs, w, rfl, rfl, e2 _ _ h1, i5 rw' hc.1.1, fX h2' hc.1.2, by rw [h2.length]; exact of_decide_eq_true hc.2, ?_⟩
      rw [uR rw' hc.1.1 h2' hc.1.2]
      exact o2 _ H2 (.refl H2) rfl
    · exact o2.elim
  · exact o2.elim⟩
end
section
variable {X : Cx} {a b c : Expr} {fa fb fc : FnE} {pos : Pos}
end
section
variable {X : Cx}
end
end FD
namespace FD
open PySem PySem.Spec PyProof.Rows L2 PySem.W
structure XAll (K : PySem.W.Frag) (m : Nat) (cls : Nat → Addr) (CJ : Addr) : Prop where
 at_ : ∀ c, c < m → nsIn K mainGlobals (xnm c) = some (some (.ref (cls c))) ∧ excIn K (cls c) bmV "ValueError.__new__" = true ∧ XI K (cls c) ∧ mroIn K (cls c) (.ref CJ) = some true ∧ kitOne K (.ref (cls c)) (.type "ValueError") = some true ∧ ∀ d, d < m → kitOne K (.ref (cls c)) (.ref (cls d)) = some (c == d)
 exJ : excIn K CJ bmV "ValueError.__new__" = true
section
variable {K : PySem.W.Frag} {m : Nat} {cls : Nat → Addr} {CJ : Addr} (x : XAll K m cls CJ)
include x
theorem XAll.same {c : Nat} {C : Addr} (h : c < m) (q : nsIn K mainGlobals (xnm c) = some (some (.ref C))) : C = cls c := by
 have z := (x.at_ c h).1
 rw [q] at z
 cases z
 rfl
theorem XAll.xk : ∀ c C, c < m → nsIn K mainGlobals (xnm c) = some (some (.ref C)) → excIn K C bmV "ValueError.__new__" = true ∧ mroIn K C (.ref CJ) = some true := fun c C h q => by
 rw [x.same h q]
 exact ⟨(x.at_ c h).2.1, (x.at_ c h).2.2.2.1⟩
end
end FD
namespace FD
open PySem
end FD
namespace FD
open PySem PySem.Spec PyProof.Rows L2
section
variable {X : Cx}
end
section
variable {X : Cx}
def cv (x y : Dv) : Option (Rs Dv) := match x, y with
 | .tup a, .tup b => if a.length + b.length ≤ 100000 then some (.ok (.tup (a ++ b))) else none
 | x, y => ec x y
theorem tf {prog : Program} {w : World} {A : Around} {E : Value → Shared → Prop} {s : Shared} {t b : Addr} {ws : List Value} {Q : Value → Shared → Prop} (ht : IsTup s.heap t #[]) (hb : IsTup s.heap b ws.toArray) (h0 : Q (.ref b) s) :
 wpAny (model prog w) A (binaryOp .Add (.ref t) (.ref b)) Q E s := by
 obtain ⟨⟨cls, dd, data, sl⟩, ho, hc, n, hd⟩ := id ht
 obtain ⟨⟨cls2, dd2, data2, sl2⟩, ho2, hc2, n2, hd2⟩ := id hb
 simp only at hc hd hc2 hd2
 subst hc hd hc2 hd2
 exact concat_meets ⟨_, ho, rfl⟩ ⟨_, ho2, rfl⟩ noFill_tuple_add seq_tuple_add PySem.F.slot_tuple_add PySem.F.entry_tuple_add (PySem.F.args_tuple_add_2 _ _)
  (tuple_addW0 t b #[] ws.toArray n n2 dd dd2 sl sl2 (by simp)) ⟨ho, ho2, h0⟩
def uS (K : PySem.W.Frag) : R2 := fun x y H Q => ∃ a b ys, x = .ref a ∧ y = .ref b ∧ SqT K H a [] ∧ SqT K H b ys ∧ Q (.ref b) H
theorem tj : OpR X (binaryOp .Add) (uS X.K) := by
 intro pins s σ H x y v u Q I rx ry h
 obtain ⟨a, b, ys, rfl, rfl, ha, hb, q⟩ := h
 cases rx
 cases ry
 obtain ⟨its, r1, p1, _⟩ := I.tuple ha
 obtain ⟨its2, r2, p2, _⟩ := I.tuple hb
 cases r1
 exact tf p1 p2 ⟨.ref b, H, I, rfl, q⟩
def zf (X : Cx) : R2 := fun x y H Q => vT x y H Q ∨ (yh X.K x y H Q ∨ uS X.K x y H Q)
theorem zg : OpR X (binaryOp .Add) (zf X) := o_add.or (op_catT.or tj)
theorem pW {x y : Dv} (h : ∀ a b, ¬ (x = .tup a ∧ y = .tup b)) : cv x y = ec x y := by
 unfold cv
 split
 · rename_i a b
   exact absurd ⟨rfl, rfl⟩ (h a b)
 · rfl
theorem zh : GOp X (zf X) cv := by
 intro dx dy x y H Q rx ry o
 by_cases hc : ∃ a b, dx = .tup a ∧ dy = .tup b
 · obtain ⟨a, b, rfl, rfl⟩ := hc
   have o' : Out X H (if a.length + b.length ≤ 100000 then some (.ok (.tup (a ++ b))) else none) Q := o
   split at o'
   · rename_i hl
     obtain ⟨p, xs, rfl, h1, q1⟩ := rx.tupE
     obtain ⟨p2, ys, rfl, h2, q2⟩ := ry.tupE
     cases xs with
     | nil =>
      have ha : a = [] := by
       have := q1.length
       exact List.length_eq_zero_iff.mp this.symm
      subst ha
      exact .inr (.inr ⟨p, p2, ys, rfl, rfl, SqT.of h1, SqT.of h2, o' _ H (.refl H) ⟨p2, ys, rfl, h2, by simpa using q2⟩⟩)
     | cons x0 xs =>
      refine .inr (.inl ⟨p, p2, x0 :: xs, ys, rfl, rfl, SqT.of h1, SqT.of h2, by simp, by rw [q1.length, q2.length]; exact aY hl, fun hy => ?_, fun hy l hl => o' _ _ (aj hl _) ⟨l, _, rfl, ai, Reps.mono (aj hl _) _ _ (q1.append q2)⟩⟩)
      subst hy
      have hb : b = [] := List.length_eq_zero_iff.mp q2.length.symm
      subst hb
      exact o' _ H (.refl H) ⟨p, _, rfl, h1, by simpa using q1⟩
   · exact o'.elim
 · rw [pW (fun a b h => hc ⟨a, b, h⟩)] at o
   exact .inl (yL dx dy x y H Q rx ry o)
theorem dM {prog : Program} {w : World} {A : Around} {E : Value → Shared → Prop} {s : Shared} {t sl : Addr} {items : Array Value} {vl vu : Value} {lo hi : Option Int} {Q : Value → Shared → Prop} (ht : IsTup s.heap t items) (hs : s.heap.IsSliceOf sl vl vu .none) (pl : IsPart vl lo) (pu : IsPart vu hi)
 (hw : HT.sIx items.size 0 lo = 0 ∧ HT.sIx items.size items.size hi = items.size) (h : Q (.ref t) s) : wpAny (model prog w) A (getItem (.ref t) (.ref sl)) Q E s := by
 obtain ⟨os, hos, hcs, hds⟩ := id hs
 have hTs : s.TypeIs (.ref sl) "slice" := ⟨os, hos, hcs⟩
 unfold getItem
 try with_reducible refine wpAny_holding ?_
 first | refine wpAny_bind (wpAny_pure ?_) | skip
 refine wpAny_bind (wpAny_sequenceKey ht.typeIs (by decide) ?_)
 refine wpAny_bind (wpAny_callSpecial?_slot (name := Str.ofString "__getitem__") ht.typeIs PyProof.Rows.slot_tuple_getitem
  (wpAny_call_entry PyProof.Rows.slot_tuple_getitem ht.typeIs entry_tuple_getitem ?_ (args_tuple_getitem _ _)))
 show wpAny _ _ (Builtin.Tuple.tupleItemsOf (.ref t) >>= _) _ _ s
 refine wpAny_bind (tupleItemsOf_ ht ?_)
 refine wpAny_bind (wpAny_typeOf hTs ?_)
 rw [if_pos (by decide)]
 refine wpAny_bind (HT.sliceApplied_gen hs pl pu ?_)
 have hyes : (((HT.sIx items.size 0 lo : Nat) : Int) == 0 && (1 : Int) == 1 && (HT.sIx items.size items.size hi - HT.sIx items.size 0 lo) == items.size) = true := by
  rw [hw.1, hw.2]
  simp
 show wpAny _ _ (if (((HT.sIx items.size 0 lo : Nat) : Int) == 0 && (1 : Int) == 1 && (HT.sIx items.size items.size hi - HT.sIx items.size 0 lo) == items.size) = true then _ else _) _ _ s
 rw [if_pos hyes]
 refine wpAny_bind (wpAny_bind (wpAny_typeOf ht.typeIs (wpAny_pure ?_)))
 rw [if_pos (by decide)]
 exact wpAny_bind (wpAny_rule (wpAny_pure ⟨_, rfl, wpAny_pure h⟩))
def D6 (K : PySem.W.Frag) : V → Option Int → Option Int → Hp → VK → Prop := fun x lo hi H Q => ∃ a xs, x = .ref a ∧ SqT K H a xs ∧
 (HT.sIx xs.length 0 lo = 0 ∧ HT.sIx xs.length xs.length hi = xs.length) ∧ Q (.ref a) H
theorem tq : SlR X (D6 X.K) := by
 intro pins s σ H x v vl vu lo hi sl Q I rx hs pl pu h
 obtain ⟨a, xs, rfl, hx, hw, q⟩ := h
 cases rx
 obtain ⟨its, r, ht, hz⟩ := I.tuple hx
 have hlen : its.toArray.size = xs.length := by rw [List.size_toArray]; exact r.length.symm
 refine ⟨"tuple", _, PyProof.Rows.slot_tuple_getitem.lookup, ht.typeIs, ?_⟩
 exact dM ht hs pl pu (by rw [hlen]; exact hw) ⟨.ref a, H, I, rfl, q⟩
def Cd (x : Dv) (lo hi : Option Int) : Option (Rs Dv) := match x with
 | .tup xs => some (.ok (.tup (su xs lo hi)))
 | x => Ba x lo hi
def tt (fa : FnE) (fl fh : FnO) : FnE := fun ρ => bnd (fa ρ) fun x => bnd (fl ρ) fun lo => bnd (fh ρ) fun hi => Cd x lo hi
theorem om {α : Type} {xs : List α} {lo hi : Option Int} (h : HT.sIx xs.length 0 lo = 0 ∧ HT.sIx xs.length xs.length hi = xs.length) : su xs lo hi = xs := by
 unfold su
 rw [h.1, h.2]
 simp
theorem wm {a : Expr} {lo hi : Option Expr} {fa : FnE} {fl fh : FnO} {p2 pos : Pos} (ha : FE X a fa) (hl : FO X lo fl) (hh : FO X hi fh) : FE X (.Subscript a (.Slice lo hi none p2) pos) (tt fa fl fh) :=
 bu (mJ ((sl_str.or pA).or (sl_tup.or tq)) ha.h hl.h hh.h) fun σ H Q ρ E o => ⟨ρ, E, Out.bind o fun d v H1 e1 r1 o1 => ⟨ρ, E.mono e1, et o1 fun l H2 e2 o2 => ⟨ρ, (E.mono e1).mono e2, et o2 fun u H3 e3 o3 => by
  have r3 := Rep.mono e3 d v (Rep.mono e2 d v r1)
  cases d <;> try exact (show False from o3).elim
  · rename_i z
    unfold Cd Ba at o3
    dsimp only at o3
    split at o3
    · rename_i hz
      exact .inl (.inl ⟨z, r3, aY hz, o3 _ H3 (.refl H3) rfl⟩)
    · exact o3.elim
  · rename_i ds
    obtain ⟨a', xs, rfl, h1, h2⟩ := r3.tupE
    have hlen := h2.length
    by_cases hw : HT.sIx xs.length 0 l = 0 ∧ HT.sIx xs.length xs.length u = xs.length
    · refine .inr (.inr ⟨a', xs, rfl, SqT.of h1, hw, o3 _ H3 (.refl H3) ⟨a', xs, rfl, h1, ?_⟩⟩)
      rw [om (by rw [← hlen]; exact hw)]
      exact h2
    · refine .inr (.inl ⟨a', xs, rfl, SqT.of h1, hw, fun p hp => o3 _ _ (aj hp _) ⟨p, _, rfl, ai, Reps.mono (aj hp _) _ _ ?_⟩⟩)
      unfold sG su
      rw [h2.length]
      exact (h2.drop _).take _
  · rename_i ds
    obtain ⟨a', xs, rfl, h1, h2⟩ := r3.lstE
    refine .inl (.inr ⟨a', xs, rfl, SqL.of h1, fun p hp => o3 _ _ (aj hp _) ⟨p, _, rfl, ai, Reps.mono (aj hp _) _ _ ?_⟩⟩)
    unfold sG su
    rw [h2.length]
    exact (h2.drop _).take _⟩⟩⟩
theorem Reps.reverse {K : PySem.W.Frag} {H : Hp} : ∀ {ds : List Dv} {vs : List V}, Reps K H ds vs → Reps K H ds.reverse vs.reverse
 | [], vs, r => by cases (show vs = [] from r); exact r
 | d :: ds, vs, r => by
  obtain ⟨v, us, rfl, r1, r2⟩ : ∃ v us, vs = v :: us ∧ Rep K H d v ∧ Reps K H ds us := r
  rw [List.reverse_cons, List.reverse_cons]
  exact (Reps.reverse r2).append ⟨v, [], rfl, r1, rfl⟩
theorem Vals.reverse : ∀ {xs : List V} {us : List Value}, Vals xs us → Vals xs.reverse us.reverse
 | _, _, .nil => .nil
 | x :: xs, u :: us, .cons r t => by
  rw [List.reverse_cons, List.reverse_cons]
  exact (Vals.reverse t).append (.cons r .nil)
def wn : List Dv → Option (Rs Dv)
 | [.lst xs] => some (.ok (.lst xs))
 | [.tup xs] => some (.ok (.lst xs))
 | _ => none
theorem wo {p pos : Pos} {e : Expr} {es : List Expr} {ga : FnA} (hg : Gl X "list") (hm : X.mg "list" = none) (ha : FA X (e :: es) ga) (he : starEach (e :: es) X.env = (false, eval e X.env) :: starEach es X.env := by kernel_rfl) (hpl : (backTo pos (starEach es X.env)).any (·.1) = false := by kernel_rfl) : FE X (.Call (.Name "list" p) (e :: es) [] pos) (fB1 wn ga) :=
 bu (jW jZ hg hm (by decide +kernel) ha.h (by decide) (by decide) he hpl) fun σ H Q ρ E o => ⟨ρ, E, OutA.bind o fun ds vs H1 e1 rs o1 => by
  unfold wn at o1
  split at o1
  · rename_i xs
    obtain ⟨v, rfl, r⟩ := bx rs
    obtain ⟨a, ws, rfl, h1, h2⟩ := r.lstE
    exact ⟨a, ws, rfl, .inl (SqL.of h1), fun l hl => o1 _ _ (aj hl _) ⟨l, ws, rfl, ai, Reps.mono (aj hl _) _ _ h2⟩⟩
  · rename_i xs
    obtain ⟨v, rfl, r⟩ := bx rs
    obtain ⟨a, ws, rfl, h1, h2⟩ := r.tupE
    exact ⟨a, ws, rfl, .inr (SqT.of h1), fun l hl => o1 _ _ (aj hl _) ⟨l, ws, rfl, ai, Reps.mono (aj hl _) _ _ h2⟩⟩
  · exact o1.elim⟩
def inP (x : Dv) (ys : List Dv) : Option Bool := if okP x && decide ((bm x).depth ≤ 63) && PyData.canLayAll0 (toPys ys) then some ((toPys ys).any fun y => PyData.eqv y (bm x)) else none
def zi (x y : Dv) : Option Bool := match vV x y with
 | some b => some b
 | none => match y with
  | .lst ys => inP x ys
  | .tup ys => inP x ys
  | _ => none
def inX (x y : Dv) : Option (Rs Dv) := match zi x y with
 | some b => some (.ok (.bl b))
 | none => none
def cw (x y : Dv) : Option (Rs Dv) := match zi x y with
 | some b => some (.ok (.bl (!b)))
 | none => none
def Bf (X : Cx) (neg : Bool) : R2 := fun x y H Q => ∃ dx ys b, Rep X.K H dx x ∧ (Rep X.K H (.lst ys) y ∨ Rep X.K H (.tup ys) y) ∧ inP dx ys = some b ∧ Q (.bl (if neg then !b else b)) H
theorem zj (hu : X.A.units + 64 < cLine) : OpR X (compareOp .In) (Bf X false) := by
 intro pins s σ H x y v u Q I rx ry h
 obtain ⟨dx, ys, b, qx, qy, hb, q⟩ := h
 unfold inP at hb
 split at hb
 · rename_i hc
   cases hb
   obtain ⟨⟨c1, c2⟩, c3⟩ : (okP dx = true ∧ (bm dx).depth ≤ 63) ∧ PyData.canLayAll0 (toPys ys) = true := by simpa using hc
   obtain ⟨as, ra⟩ := Rep.reads I dx x v qx rx (Bool.and_eq_true_iff.mp c1).1
   have hd : X.A.units + 1 + min (PyData.depthAll (toPys ys)) (bm dx).depth < cLine := by
    have := Nat.min_le_right (PyData.depthAll (toPys ys)) (bm dx).depth
    omega
   rcases qy with qy | qy
   · obtain ⟨bs, rb⟩ := Rep.reads I (.lst ys) y u qy ry (by simpa [bm, PyData.canLay0] using c3)
     exact SeqAt.in_list_reads rb ra c3 (Bool.and_eq_true_iff.mp c1).1 hd ⟨.bl _, H, I, rfl, q⟩
   · obtain ⟨bs, rb⟩ := Rep.reads I (.tup ys) y u qy ry (by simpa [bm, PyData.canLay0] using c3)
     exact SeqAt.in_tuple_reads rb ra c3 (Bool.and_eq_true_iff.mp c1).1 hd ⟨.bl _, H, I, rfl, q⟩
 · cases hb
theorem pX (hu : X.A.units + 64 < cLine) : OpR X (compareOp .NotIn) (Bf X true) := by
 intro pins s σ H x y v u Q I rx ry h
 obtain ⟨dx, ys, b, qx, qy, hb, q⟩ := h
 unfold inP at hb
 split at hb
 · rename_i hc
   cases hb
   obtain ⟨⟨c1, c2⟩, c3⟩ : (okP dx = true ∧ (bm dx).depth ≤ 63) ∧ PyData.canLayAll0 (toPys ys) = true := by simpa using hc
   obtain ⟨as, ra⟩ := Rep.reads I dx x v qx rx (Bool.and_eq_true_iff.mp c1).1
   have hd : X.A.units + 1 + min (PyData.depthAll (toPys ys)) (bm dx).depth < cLine := by
    have := Nat.min_le_right (PyData.depthAll (toPys ys)) (bm dx).depth
    omega
   rcases qy with qy | qy
   · obtain ⟨bs, rb⟩ := Rep.reads I (.lst ys) y u qy ry (by simpa [bm, PyData.canLay0] using c3)
     exact SeqAt.notIn_list_reads rb ra c3 (Bool.and_eq_true_iff.mp c1).1 hd ⟨.bl _, H, I, rfl, q⟩
   · obtain ⟨bs, rb⟩ := Rep.reads I (.tup ys) y u qy ry (by simpa [bm, PyData.canLay0] using c3)
     exact SeqAt.notIn_tuple_reads rb ra c3 (Bool.and_eq_true_iff.mp c1).1 hd ⟨.bl _, H, I, rfl, q⟩
 · cases hb
def Do (X : Cx) : R2 := fun x y H Q => B0 X.K x y H Q ∨ Bf X false x y H Q
def pY (X : Cx) : R2 := fun x y H Q => lI X.K x y H Q ∨ Bf X true x y H Q
theorem Ce (hu : X.A.units + 64 < cLine) : OpR X (compareOp .In) (Do X) := o_in.or (zj hu)
theorem tu (hu : X.A.units + 64 < cLine) : OpR X (compareOp .NotIn) (pY X) := o_notIn.or (pX hu)
theorem Cf : GOp X (Do X) inX := by
 intro dx dy x y H Q rx ry o
 unfold inX zi at o
 match h0 : vV dx dy with
 | some b =>
  rw [h0] at o
  exact .inl (B1 dx dy x y H Q rx ry (by unfold inD; rw [h0]; exact o))
 | none =>
  rw [h0] at o
  cases dy <;> try exact (show False from o).elim
  · rename_i ys
    match hp : inP dx ys with
    | none => simp only [hp] at o; exact (show False from o).elim
    | some b => simp only [hp] at o; exact .inr ⟨dx, ys, b, rx, .inr ry, hp, o _ H (.refl H) rfl⟩
  · rename_i ys
    match hp : inP dx ys with
    | none => simp only [hp] at o; exact (show False from o).elim
    | some b => simp only [hp] at o; exact .inr ⟨dx, ys, b, rx, .inl ry, hp, o _ H (.refl H) rfl⟩
theorem tw : GOp X (pY X) cw := by
 intro dx dy x y H Q rx ry o
 unfold cw zi at o
 match h0 : vV dx dy with
 | some b =>
  rw [h0] at o
  exact .inl (pL dx dy x y H Q rx ry (by unfold j7; rw [h0]; exact o))
 | none =>
  rw [h0] at o
  cases dy <;> try exact (show False from o).elim
  · rename_i ys
    match hp : inP dx ys with
    | none => simp only [hp] at o; exact (show False from o).elim
    | some b => simp only [hp] at o; exact .inr ⟨dx, ys, b, rx, .inr ry, hp, o _ H (.refl H) rfl⟩
  · rename_i ys
    match hp : inP dx ys with
    | none => simp only [hp] at o; exact (show False from o).elim
    | some b => simp only [hp] at o; exact .inr ⟨dx, ys, b, rx, .inl ry, hp, o _ H (.refl H) rfl⟩
def Bg : Str → List Dv → Option (Rs Dv)
 | x, [.str y] => match Builtin.Str.occurrences x y 0 x.length 1 with
  | i :: _ => some (.ok (.int i))
  | [] => none
 | _, _ => none
def Dr : V → List V → Hp → VK → Prop := fun x xs H Q => ∃ i j k l, x = .str i ∧ xs = [.str j] ∧ Builtin.Str.occurrences i j 0 i.length 1 = k :: l ∧ Q (.int (k : Nat)) H
theorem zk : MtR X "str.index" Dr := by
 intro pins s σ H x xs v us Q I rx rs h
 obtain ⟨i, j, k, l, rfl, rfl, ho, q⟩ := h
 obtain ⟨t, rfl⟩ := rx
 obtain ⟨u, rfl, ru⟩ := b5 rs
 obtain ⟨t', rfl⟩ := ru
 exact SC.index ho ⟨.int _, H, I.tok _, ⟨_, rfl⟩, q⟩
theorem Cg (i : Str) (ds : List Dv) (vs : List V) (H : Hp) (Q : VK) (rs : Reps X.K H ds vs) (o : Out X H (Bg i ds) Q) : Dr (.str i) vs H Q := by
 unfold Bg at o
 split at o
 · rename_i j
   obtain ⟨w, rfl, rw'⟩ := bx rs
   cases (show w = .str j from rw')
   match hk : Builtin.Str.occurrences i j 0 i.length 1 with
   | [] => rw [hk] at o; exact o.elim
   | k :: l => rw [hk] at o; exact ⟨i, j, k, l, rfl, rfl, hk, o _ H (.refl H) rfl⟩
 · exact o.elim
end
abbrev wp (its : List Value) (n : Nat) : Obj := { cls := .type "list", data := .seq its.toArray n }
section
variable {X : Cx} {pins : List (Addr × Obj)} {σ : L2.St} {H : Hp} {s : Shared} {a : Addr} {xs : List V}
theorem Inv.untrack (I : Inv X pins σ (upd H a (.lst xs)) s) (ha : H a = none) (hex : X.ex = []) : ∃ its n, Vals xs its ∧ xs.length ≤ sizeLine ∧ (∀ o, X.s₀.heap.get? a = some o → X.H₀ a ≠ none) ∧ (∀ p ∈ X.pn ++ pins, p.1 ≠ a) ∧ Inv X (pins ++ [(a, wp its n)]) σ H s := by
 obtain ⟨z, its, n, rv, hl, e⟩ := I.lstM (l := a) (xs := xs) ai
 have hb : ∀ b u, H b = some u → b ≠ a := fun b u q => am q ha
 have low : ∀ b, upd H a (.lst xs) b = none → H b = none := fun b q => by
  by_cases hba : b = a
  · rw [hba]; exact ha
  · rw [ao hba] at q; exact q
 have dn : ∀ b u, upd H a (.lst xs) b = some u → (∀ ys, u ≠ .lst ys) → H b = some u := fun b u q hu => by
  by_cases hba : b = a
  · rw [hba, ai] at q
    exact absurd (Option.some.inj q).symm (hu xs)
  · rw [ao hba] at q; exact q
 have nfs : a ∉ X.fs := fun hm => by
  obtain ⟨_, o, ho, _⟩ := I.ok.funs.mem hm
  have := I.base.free a o ho (I.ok.frf a hm) (by rw [hex]; simp)
  rw [ai] at this
  cases this
 have npin : ∀ p ∈ X.pn ++ pins, p.1 ≠ a := fun p hp w => by
  have := (I.pin p hp).2.1
  rw [w, ai] at this
  cases this
 refine ⟨its, n, rv, z, fun o ho h0 => ?_, npin, ⟨I.ok, I.os, I.bare, ⟨I.base.keep, I.base.slot, fun b o q n hx => low b (I.base.free b o q n hx), I.base.there, fun b ys q => dn b _ (I.base.tups b ys q) (fun _ w => by cases w), fun b o u q => dn b _ (I.base.frzs b o u q) (fun _ w => by cases w), fun b ps q => ?_⟩, I.loc, I.cell, low _ I.free, fun x c q => low _ (I.freeC x c q), fun p hp => ?_, fun b u q => ?_, I.len⟩⟩
 · have := I.base.free a o ho h0 (by rw [hex]; simp)
   rw [ai] at this
   cases this
 · obtain ⟨more, q'⟩ := I.base.tbls b ps q
   exact ⟨more, dn b _ q' (fun _ w => by cases w)⟩
 · rcases List.mem_append.mp hp with h1 | h1
   · obtain ⟨q1, q2, q3⟩ := I.pin p (List.mem_append_left _ h1)
     exact ⟨q1, low _ q2, q3⟩
   · rcases List.mem_append.mp h1 with h1 | h1
     · obtain ⟨q1, q2, q3⟩ := I.pin p (List.mem_append_right _ h1)
       exact ⟨q1, low _ q2, q3⟩
     · simp only [List.mem_singleton] at h1
       subst h1
       refine ⟨e, ha, fun w => ?_, nfs, fun v w => by cases w⟩
       obtain ⟨m, ⟨o, es, ep, ho, hd, _⟩, _⟩ := I.loc
       have w' : a = X.env.locals := w
       rw [← w', e] at ho
       cases ho
       cases hd
 · have hq : upd H a (.lst xs) b = some u := by rw [ao (hb b u q)]; exact q
   refine (I.hok b u hq).stay (fun _ _ _ w => w) (fun c w => dn c _ w (fun _ w => by cases w)) fun c ys w => dn c _ w (fun _ w => by cases w)
theorem Inv.retrack {its : List Value} {n : Nat} (I : Inv X (pins ++ [(a, wp its n)]) σ H s) (rv : Vals xs its) (hz : xs.length ≤ sizeLine) (h0 : ∀ o, X.s₀.heap.get? a = some o → X.H₀ a ≠ none) (hp0 : ∀ p ∈ X.pn ++ pins, p.1 ≠ a) : H a = none ∧ Inv X pins σ (upd H a (.lst xs)) s := by
 obtain ⟨e, ha, nL, nf, nc⟩ := I.pin (a, wp its n) (List.mem_append_right _ (List.mem_append_right _ (by simp)))
 have up : ∀ b u, H b = some u → upd H a (.lst xs) b = some u := fun b u q => by rw [ao (am q ha)]; exact q
 have lo : ∀ b, H b = none → b ≠ a → upd H a (.lst xs) b = none := fun b q h => by rw [ao h]; exact q
 refine ⟨ha, ⟨I.ok, I.os, I.bare, ⟨I.base.keep, I.base.slot, fun b o q n hx => lo b (I.base.free b o q n hx) (fun w => h0 o (w ▸ q) (w ▸ n)), I.base.there, fun b ys q => up b _ (I.base.tups b ys q), fun b o u q => up b _ (I.base.frzs b o u q), fun b ps q => ?_⟩, I.loc, I.cell, lo _ I.free (Ne.symm nL), fun x c q => lo _ (I.freeC x c q) (fun w => ?_), fun p hp => ?_, fun b u q => ?_, I.len⟩⟩
 · obtain ⟨more, q'⟩ := I.base.tbls b ps q
   exact ⟨more, up b _ q'⟩
 · obtain ⟨v, o, ho, hd⟩ := I.cell x c q
   rw [w] at ho
   have e' : s.heap.get? a = some (wp its n) := e
   rw [e'] at ho
   cases ho
   cases hd
 · obtain ⟨q1, q2, q3⟩ := I.pin p (by
    rcases List.mem_append.mp hp with h1 | h1
    · exact List.mem_append_left _ h1
    · exact List.mem_append_right _ (List.mem_append_left _ h1))
   exact ⟨q1, lo _ q2 (hp0 p hp), q3⟩
 · by_cases hb : b = a
   · subst hb
     rw [ai] at q
     cases q
     exact ⟨hz, its, n, rv, e⟩
   · rw [ao hb] at q
     exact (I.hok b u q).stay (fun _ _ _ w => w) (fun c w => up c _ w) fun c ys w => up c _ w
end
def Ch (t : TE) : TE := fun σ Hf Q => ∃ H a xs, Hf = upd H a (.lst xs) ∧ H a = none ∧ t σ H fun v H' => H' a = none → Q v (upd H' a (.lst xs))
def Ci (t : TA) : TA := fun σ Hf Q => ∃ H a xs, Hf = upd H a (.lst xs) ∧ H a = none ∧ t σ H fun v H' => H' a = none → Q v (upd H' a (.lst xs))
def Cj (t : TI) : TI := fun σ Hf Q => ∃ H a xs, Hf = upd H a (.lst xs) ∧ H a = none ∧ t σ H fun v H' => H' a = none → Q v (upd H' a (.lst xs))
section
variable {X : Cx} {e : Expr} {es : List Expr}
theorem wq (hex : X.ex = []) {t : TE} (h : PE X e t) : PE X e (Ch t) := by
 intro pins s σ Hf Q I ⟨H, a, xs, e1, ha, q⟩
 subst e1
 obtain ⟨its, n, rv, hz, h0, hp, I'⟩ := Inv.untrack I ha hex
 refine thn (h _ s σ H _ I' q) fun u s' ⟨v, H', I2, r, q2⟩ => ?_
 obtain ⟨ha', I3⟩ := Inv.retrack I2 rv hz h0 hp
 exact ⟨v, _, I3, r, q2 ha'⟩
theorem wt (hex : X.ex = []) {t : TA} (h : PA X es t) : PA X es (Ci t) := by
 intro pos pins s σ Hf Q I ⟨H, a, xs, e1, ha, q⟩
 subst e1
 obtain ⟨its, n, rv, hz, h0, hp, I'⟩ := Inv.untrack I ha hex
 refine thn (h pos _ s σ H _ I' q) fun u s' ⟨v, H', I2, r, q2⟩ => ?_
 obtain ⟨ha', I3⟩ := Inv.retrack I2 rv hz h0 hp
 exact ⟨v, _, I3, r, q2 ha'⟩
theorem wu (hex : X.ex = []) {tg : Expr} {t : TI} (h : PI X tg e t) : PI X tg e (Cj t) := by
 intro pins s σ Hf R I ⟨H, a, xs, e1, ha, q⟩
 subst e1
 obtain ⟨its, n, rv, hz, h0, hp, I'⟩ := Inv.untrack I ha hex
 refine thn (h _ s σ H _ I' q) fun u s1 hs1 => thn hs1 fun itv s2 ⟨it, fp, tn, J, H', e2, I2, T, t0, fpo, q2⟩ => ?_
 obtain ⟨ha', I3⟩ := Inv.retrack I2 rv hz h0 hp
 refine ⟨it, fp, tn, J, _, e2, I3, T, t0, fun b hb => ?_, q2 ha'⟩
 obtain ⟨g0, g1, g2, g3, g4, g5⟩ := fpo b hb
 have hba : b ≠ a := fun w => g5 (a, wp its n) (List.mem_append_right _ (List.mem_append_right _ (by simp))) w.symm
 refine ⟨by rw [ao hba]; exact g0, g1, g2, g3, g4, fun p hp' => g5 p ?_⟩
 rcases List.mem_append.mp hp' with w | w
 · exact List.mem_append_left _ w
 · exact List.mem_append_right _ (List.mem_append_left _ w)
end
mutual
def imm : Dv → Bool
 | .non => true
 | .bl _ => true
 | .int _ => true
 | .str _ => true
 | .tup ds => imms ds
 | .lst _ => false
 | .scr _ => false
 | .exn _ => false
def imms : List Dv → Bool
 | [] => true
 | d :: ds => imm d && imms ds
end
section
variable {K : PySem.W.Frag} {H H' : Hp}
mutual
theorem Rep.tups (k : ∀ b ys, H b = some (.tup ys) → H' b = some (.tup ys)) : ∀ (d : Dv) (v : V), imm d = true → Rep K H d v → Rep K H' d v
 | .non, _, _, h => h
 | .bl _, _, _, h => h
 | .int _, _, _, h => h
 | .str _, _, _, h => h
 | .tup ds, v, i, h => by
  obtain ⟨a, xs, r, h, q⟩ := h.tupE
  exact ⟨a, xs, r, k _ _ h, Reps.tups k ds xs (by simpa [imm] using i) q⟩
 | .lst _, _, i, _ => by simp [imm] at i
 | .scr _, _, i, _ => by simp [imm] at i
 | .exn _, _, i, _ => by simp [imm] at i
theorem Reps.tups (k : ∀ b ys, H b = some (.tup ys) → H' b = some (.tup ys)) : ∀ (ds : List Dv) (vs : List V), imms ds = true → Reps K H ds vs → Reps K H' ds vs
 | [], _, _, h => h
 | d :: ds, vs, i, h => by
  obtain ⟨v, us, r, h, q⟩ : ∃ v us, vs = v :: us ∧ Rep K H d v ∧ Reps K H ds us := h
  have i' : imm d = true ∧ imms ds = true := by simpa [imms] using i
  exact ⟨v, us, r, Rep.tups k d v i'.1 h, Reps.tups k ds us i'.2 q⟩
end
end
inductive Fo where
 | nx (ρ : Ev) (ds : List Dv)
 | rt (d : Dv)
abbrev hZ := Ev → List Dv → Option Fo
def OutW (X : Cx) (i : Nat) (a : Addr) (H : Hp) (o : Option Fo) (D : oM) : Prop := match o with
 | none => False
 | some (.rt d) => ∀ v H', Same H H' → Rep X.K H' d v → D.rt v H'
 | some (.nx ρ ds) => ∀ σ H' xs, Same H H' → H' a = none → σ[i]? = some (some (.ref a)) → Envs X.K H' σ ρ → Reps X.K H' ds xs → D.nx σ (upd H' a (.lst xs))
theorem OutW.mono {X : Cx} {i : Nat} {a : Addr} {H H' : Hp} {D : oM} (e : Same H H') : ∀ {o : Option Fo}, OutW X i a H o D → OutW X i a H' o D
 | none, h => h
 | some (.rt _), h => fun v H1 e1 r => h v H1 (e.trans e1) r
 | some (.nx _ _), h => fun σ H1 xs e1 => h σ H1 xs (e.trans e1)
def tO (X : Cx) (i : Nat) (f : hZ) : TS := fun D σ Hf => ∃ H a xs ρ ds, Hf = upd H a (.lst xs) ∧ H a = none ∧ σ[i]? = some (some (.ref a)) ∧ Envs X.K H σ ρ ∧ Reps X.K H ds xs ∧ OutW X i a H (f ρ ds) D
structure FO1 (X : Cx) (i : Nat) (st : Stmt) (f : hZ) : Prop where
 h : PS X st (tO X i f)
structure FOs (X : Cx) (i : Nat) (st : List Stmt) (f : hZ) : Prop where
 h : PSs X st (tO X i f)
def xE {α : Type} (o : Option (Rs α)) (k : α → Option Fo) : Option Fo := match o with
 | some (.ok a) => k a
 | _ => none
def Bh : hZ := fun ρ ds => some (.nx ρ ds)
def dN (f g : hZ) : hZ := fun ρ ds => match f ρ ds with
 | some (.nx ρ' ds') => g ρ' ds'
 | o => o
def ez (j : Nat) (f : FnE) : hZ := fun ρ ds => xE (f ρ) fun d => some (.nx (ρ.set j (some d)) ds)
def wv (i : Nat) (c : FnB) (f g : hZ) : hZ := fun ρ ds => xE (c (ρ.set i (some (.lst ds)))) fun k => if k then f ρ ds else g ρ ds
def xF (i : Nat) (f : FnE) : hZ := fun ρ ds => xE (f (ρ.set i (some (.lst ds)))) fun d => some (.rt d)
def xG (f : FnE) : hZ := fun ρ ds => if ds.length < 100000 then xE (f ρ) fun d => some (.nx ρ (ds ++ [d])) else none
section
variable {X : Cx} {i : Nat} {st : Stmt} {sts : List Stmt} {f g : hZ} {fe : FnE} {gb : FnB} {e c : Expr} {pos : Pos}
theorem pZ {H Hf : Hp} {a : Addr} {xs : List V} (ha : H a = none) (e : Same (upd H a (.lst xs)) Hf) : ∃ H', Hf = upd H' a (.lst xs) ∧ H' a = none ∧ Same H H' := by
 refine ⟨fun b => if b = a then none else Hf b, ?_, by simp, fun b u q => ?_⟩
 · funext b
   by_cases hb : b = a
   · subst hb
     rw [ai]
     exact e b _ ai
   · rw [ao hb]
     simp [hb]
 · have hb : b ≠ a := am q ha
   simp only [hb, if_false]
   exact e b u (by rw [ao hb]; exact q)
theorem c5 {H : Hp} {a : Addr} {xs : List V} (ha : H a = none) : Same H (upd H a (.lst xs)) := aj ha _
theorem gu {H : Hp} {a : Addr} {xs : List V} {σ : L2.St} {ρ : Ev} {ds : List Dv} (ha : H a = none) (hi : σ[i]? = some (some (.ref a))) (E : Envs X.K H σ ρ) (r : Reps X.K H ds xs) : Envs X.K (upd H a (.lst xs)) σ (ρ.set i (some (.lst ds))) := by
 have E' := E.mono (c5 (xs := xs) ha)
 refine ⟨by rw [List.length_set]; exact E'.len, fun j d hj => ?_⟩
 by_cases hij : i = j
 · subst hij
   by_cases hl : i < ρ.length
   · rw [List.getElem?_set_self hl] at hj
     cases hj
     exact ⟨.ref a, hi, a, xs, rfl, ai, Reps.mono (c5 ha) _ _ r⟩
   · rw [List.getElem?_eq_none (by rw [List.length_set]; omega)] at hj
     cases hj
 · rw [List.getElem?_set_ne hij] at hj
   exact E'.at' j d hj
theorem ww : FOs X i [] Bh := ⟨fun pins s σ Hf D I ⟨H, a, xs, ρ, ds, e1, ha, hi, E, r, o⟩ => by
 subst e1
 exact oX pins s σ _ D I (o σ H xs (.refl H) ha hi E r)⟩
theorem tx (h1 : FO1 X i st f) (h2 : FOs X i sts g) : FOs X i (st :: sts) (dN f g) := ⟨fun pins s σ Hf D I ⟨H, a, xs, ρ, ds, e1, ha, hi, E, r, o⟩ => by
 refine iW h1.h h2.h pins s σ Hf D I ⟨H, a, xs, ρ, ds, e1, ha, hi, E, r, ?_⟩
 unfold dN at o
 match hf : f ρ ds with
 | none => rw [hf] at o; exact o.elim
 | some (.rt d) => rw [hf] at o; exact o
 | some (.nx ρ' ds') => rw [hf] at o; exact fun σ' H' xs' e' ha' hi' E' r' => ⟨H', a, xs', ρ', ds', rfl, ha', hi', E', r', OutW.mono e' o⟩⟩
theorem wx (h1 : FO1 X i st f) : FOs X i [st] f := ⟨oY h1.h⟩
theorem zl (hex : X.ex = []) (j : Nat) (hij : i ≠ j) {x : Str} {pos' : Pos} (hN : X.N.Nodup) (hi : X.N[j]? = some x) (hx : Loc X.env.scope x) (he : FE X e fe) (hs : swapsWith e (some (.Name x pos')) pos.line X.env = pure false := by kernel_rfl) (hf : X.fn x = true ∨ X.env.scope.names.lookup x = some .local := by first | exact .inl rfl | exact .inr rfl | assumption) :
 FO1 X i (.Assign [.Name x pos'] e pos) (ez j fe) := ⟨fun pins s σ Hf D I ⟨H, a, xs, ρ, ds, e1, ha, hia, E, r, o⟩ => by
 refine o6 hN hi hx (wq hex he.h) hs hf pins s σ Hf D I ⟨H, a, xs, e1, ha, ρ, E, ?_⟩
 unfold ez at o
 match hfe : fe ρ with
 | none => rw [hfe] at o; exact o.elim
 | some (.exc _) => rw [hfe] at o; exact o.elim
 | some (.ok d) =>
  rw [hfe] at o
  exact fun v H' e' rd ha' => o _ H' xs e' ha' (by rw [List.getElem?_set_ne (Ne.symm hij)]; exact hia) ((E.mono e').set rd) (Reps.mono e' _ _ r)⟩
theorem zm {as bs : List Stmt} (hc : FT X c gb) (ha : FOs X i as f) (hb : FOs X i bs g) : FO1 X i (.If c as bs pos) (wv i gb f g) := ⟨fun pins s σ Hf D I ⟨H, a, xs, ρ, ds, e1, ha', hia, E, r, o⟩ => by
 subst e1
 refine x3 hc.h ha.h hb.h pins s σ _ D I ⟨_, gu ha' hia E r, ?_⟩
 unfold wv at o
 match hg : gb (ρ.set i (some (.lst ds))) with
 | none => rw [hg] at o; exact o.elim
 | some (.exc _) => rw [hg] at o; exact o.elim
 | some (.ok true) =>
  rw [hg] at o
  intro H2 e2
  obtain ⟨H', q1, q2, q3⟩ := pZ ha' e2
  exact vI ⟨H', a, xs, ρ, ds, q1, q2, hia, E.mono q3, Reps.mono q3 _ _ r, OutW.mono q3 o⟩
 | some (.ok false) =>
  rw [hg] at o
  intro H2 e2
  obtain ⟨H', q1, q2, q3⟩ := pZ ha' e2
  exact vH ⟨H', a, xs, ρ, ds, q1, q2, hia, E.mono q3, Reps.mono q3 _ _ r, OutW.mono q3 o⟩⟩
theorem zn (he : FE X e fe) : FO1 X i (.Return (some e) pos) (xF i fe) := ⟨fun pins s σ Hf D I ⟨H, a, xs, ρ, ds, e1, ha', hia, E, r, o⟩ => by
 subst e1
 refine uA he.h pins s σ _ D I ⟨_, gu ha' hia E r, ?_⟩
 unfold xF at o
 match hg : fe (ρ.set i (some (.lst ds))) with
 | none => rw [hg] at o; exact o.elim
 | some (.exc _) => rw [hg] at o; exact o.elim
 | some (.ok d) => rw [hg] at o; exact fun v H2 e2 rd => o v H2 ((c5 ha').trans e2) rd⟩
theorem zo (hex : X.ex = []) {x : Str} {apos cpos : Pos} (hx : PE X (.Name x apos) (xP i)) (he : FE X e fe)
 (hbase : attributeBase (.Name x apos) "append" X.env (eval (.Name x apos) X.env) = eval (.Name x apos) X.env := by kernel_rfl)
 (hfew : ((backTo cpos (starEach [e] X.env)).all (fun x => !x.1) && (backToKw cpos (keywordEach [] X.env)).all (fun x => x.1.isSome)
   && decide ([e].length + ([] : List Keyword).length + (if ([] : List Keyword).isEmpty then 0 else 1) < 30)) = true := by kernel_rfl)
 {ap : Pos} (hline : (ap.endLine == cpos.line) = true := by kernel_rfl) (hs : starEach [e] X.env = (false, eval e X.env) :: starEach [] X.env := by kernel_rfl) (hplain : (backTo cpos (starEach [] X.env)).any (·.1) = false := by kernel_rfl)
 (hsw : swapsWith (.Call (.Attribute (.Name x apos) "append" ap) [e] [] cpos) none pos.line X.env = pure false := by kernel_rfl) :
 FO1 X i (.Expr (.Call (.Attribute (.Name x apos) "append" ap) [e] [] cpos) pos) (xG fe) := ⟨fun pins s σ Hf D I ⟨H, a, xs, ρ, ds, e1, ha', hia, E, r, o⟩ => by
 refine oZ (sH PySem.F.plainAttrs_list PySem.F.slot_list_append PySem.F.type_list_append pC hx (wt hex (pF he uI hs).h) hbase hfew hline hs hplain) hsw pins s σ Hf D I ?_
 unfold xG at o
 split at o
 · rename_i hl
   match hfe : fe ρ with
   | none => rw [hfe] at o; exact o.elim
   | some (.exc _) => rw [hfe] at o; exact o.elim
   | some (.ok d) =>
    rw [hfe] at o
    refine ⟨.ref a, hia, .inl ⟨rfl, xs, SqL.of (by rw [e1]; exact ai)⟩, H, a, xs, e1, ha', ρ, E, ?_⟩
    show OutA X H (aa fe ag ρ) _
    rw [ae hfe av]
    intro vs H' e' rs ha2
    obtain ⟨v, rfl, rv⟩ := bx rs
    have hz : xs.length < sizeLine := by
     have := r.length
     have h2 := aY (n := xs.length + 1) (by omega)
     omega
    refine ⟨a, xs, v, rfl, rfl, ai, hz, ?_⟩
    rw [vn]
    exact o σ H' (xs ++ [v]) e' ha2 hia (E.mono e') ((Reps.mono e' _ _ r).append ⟨v, [], rfl, rv, rfl⟩)
 · exact o.elim⟩
end
def xH (i : Nat) (g : FnA) (f : hZ) : FnS := fun ρ => cT (g ρ) fun ds => if ds.length ≤ 100000 then (match f (ρ.set i none) ds with
 | some (.nx ρ' ds') => some (.nx (ρ'.set i (some (.lst ds'))))
 | some (.rt d) => some (.rt d)
 | none => none) else none
section
variable {X : Cx} {i : Nat} {sts : List Stmt} {f : hZ} {g : FnA} {es : List Expr} {pos lp : Pos}
theorem wy {x : Str} {pos' : Pos} (hN : X.N.Nodup) (hi : X.N[i]? = some x) (hx : Loc X.env.scope x) (hg : FA X es g) (hr : FOs X i sts f) (hs : swapsWith (.List es lp) (some (.Name x pos')) pos.line X.env = pure false := by kernel_rfl)
 (hf : X.fn x = true ∨ X.env.scope.names.lookup x = some .local := by first | exact .inl rfl | exact .inr rfl | assumption) : FSs X (.Assign [.Name x pos'] (.List es lp) pos :: sts) (xH i g f) := ⟨fun pins s σ H D I ⟨ρ, E, o⟩ => by
 refine iW (o6 (i := i) hN hi hx (uF hg.h) hs hf) hr.h pins s σ H D I ⟨ρ, E, ?_⟩
 unfold xH at o
 match hgr : g ρ with
 | none => rw [hgr] at o; exact o.elim
 | some (.exc _) => rw [hgr] at o; exact o
 | some (.ok ds) =>
  rw [hgr] at o
  intro vs H1 e1 rs
  have o2 : OutS X H (if ds.length ≤ 100000 then (match f (ρ.set i none) ds with
   | some (.nx ρ' ds') => some (.nx (ρ'.set i (some (.lst ds'))))
   | some (.rt d) => some (.rt d)
   | none => none) else none) D := o
  by_cases hl : ds.length ≤ 100000
  · rw [if_pos hl] at o2
    refine ⟨by rw [rs.length]; exact aY hl, fun p hp => ?_⟩
    have hil : i < σ.length := by rw [I.len]; exact (List.getElem?_eq_some_iff.mp hi).1
    refine ⟨H1, p, vs, ρ.set i none, ds, rfl, hp, List.getElem?_set_self hil, ?_, rs, ?_⟩
    · have E1 := (E.mono e1).fgt1 i
      refine ⟨by rw [List.length_set]; exact E1.len, fun j d hj => ?_⟩
      by_cases hij : i = j
      · subst hij
        by_cases hl2 : i < ρ.length
        · rw [List.getElem?_set_self hl2] at hj; cases hj
        · rw [List.getElem?_eq_none (by rw [List.length_set]; omega)] at hj; cases hj
      · obtain ⟨v, q1, q2⟩ := E1.at' j d hj
        exact ⟨v, by rw [List.getElem?_set_ne hij]; exact q1, q2⟩
    · match hfr : f (ρ.set i none) ds with
      | none => rw [hfr] at o2; exact o2.elim
      | some (.rt d) => rw [hfr] at o2; exact fun v H' e' r' => o2 v H' (e1.trans e') r'
      | some (.nx ρ' ds') =>
       rw [hfr] at o2
       exact fun σ' H' xs' e' ha' hi' E' r' => o2 σ' _ ((e1.trans e').trans (c5 ha')) (gu ha' hi' E' r')
  · rw [if_neg hl] at o2
    exact o2.elim⟩
end
def ki (j : Nat) (js : List Nat) (body : hZ) : List Dv → Ev → List Dv → Option Fo
 | [], ρ, xs => some (.nx (fgt js ρ) xs)
 | d :: ds, ρ, xs => match body ((fgt js ρ).set j (some d)) xs with
  | some (.nx ρ' xs') => ki j js body ds ρ' xs'
  | o => o
def wz (j : Nat) (js : List Nat) (src : FnA) (body : hZ) : hZ := fun ρ xs => xE (src ρ) fun ds => if imms ds = true then ki j js body ds ρ xs else none
theorem fZ : ∀ {ds : List Dv} {n : Nat} {d : Dv}, imms ds = true → ds[n]? = some d → imm d = true
 | [], _, _, _, h => by simp at h
 | e :: ds, 0, d, i, h => by
  have i' : imm e = true ∧ imms ds = true := by simpa [imms] using i
  cases (show some e = some d from h)
  exact i'.1
 | e :: ds, n + 1, d, i, h => by
  have i' : imm e = true ∧ imms ds = true := by simpa [imms] using i
  exact fZ i'.2 (show ds[n]? = some d from h)
theorem tz {K : PySem.W.Frag} {H : Hp} {a : Addr} {xs : List V} {d : Dv} {v : V} (i : imm d = true) (r : Rep K (upd H a (.lst xs)) d v) : Rep K H d v :=
 Rep.tups (fun b ys q => by
  by_cases hb : b = a
  · rw [hb, ai] at q; cases q
  · rw [ao hb] at q; exact q) d v i r
theorem zp {X : Cx} {i : Nat} {tg iter : Expr} {body : List Stmt} {pos : Pos} {src : FnA} {fb : hZ} (hex : X.ex = []) (j : Nat) (js : List Nat) (hij : i ≠ j) (hp : PassesOwn (model X.prog X.w) X.A X.env X.xe) (hc : X.calm = true) (hi : FI X tg iter src) (hg : PG X tg (ia j)) (hb : FOs X i body fb)
 (hs : ∀ x, foldedSetIterable iter X.env x = pure x := by intro _; kernel_rfl) : FO1 X i (.For tg iter body [] pos) (wz j js src fb) := ⟨fun pins s σ Hf D I ⟨H, a, xs, ρ, ds, e1, ha, hia, E, r, o⟩ => by
 refine uC hp hc (wu hex hi.h) hg hb.h hs pins s σ Hf D I ⟨H, a, xs, e1, ha, ρ, E, ?_⟩
 unfold wz at o
 match hf : src ρ with
 | none => rw [hf] at o; exact o.elim
 | some (.exc _) => rw [hf] at o; exact o.elim
 | some (.ok us) =>
  rw [hf] at o
  have o0 : OutW X i a H (if imms us = true then ki j js fb us ρ ds else none) D := o
  by_cases him : imms us = true
  · rw [if_pos him] at o0
    intro J H1 e1 wk ha1
    have o1 := OutW.mono e1 o0
    refine ⟨fun n m σ' Hf' => m = us.length - n ∧ n ≤ us.length ∧ ∃ H' xs' ρ' ds', Hf' = upd H' a (.lst xs') ∧ H' a = none ∧ Same H1 H' ∧ σ'[i]? = some (some (.ref a)) ∧ Envs X.K H' σ' ρ' ∧ Reps X.K H' ds' xs' ∧ OutW X i a H' (ki j js fb (us.drop n) ρ' ds') D,
     ⟨us.length, by simp, Nat.zero_le _, H1, xs, ρ, ds, rfl, ha1, .refl H1, hia, E.mono e1, Reps.mono e1 _ _ r, by simpa using o1⟩, ?_⟩
    rintro n m σ' Hf' ⟨rfl, hn, H', xs', ρ', ds', rfl, ha', e2, hia', E', r', o'⟩
    have e2f : Same H1 (upd H' a (.lst xs')) := e2.trans (c5 ha')
    by_cases hlt : n < us.length
    · refine .inr ⟨wk.go n _ e2f hlt, fun σ2 Hf2 => ∃ H2 xs2 ρ2 ds2, Hf2 = upd H2 a (.lst xs2) ∧ H2 a = none ∧ Same H1 H2 ∧ σ2[i]? = some (some (.ref a)) ∧ Envs X.K H2 σ2 ρ2 ∧ Reps X.K H2 ds2 xs2 ∧ OutW X i a H2 (ki j js fb (us.drop (n + 1)) ρ2 ds2) D,
       fun σ2 Hf2 q => ⟨us.length - (n + 1), by omega, rfl, hlt, q⟩, fun x H2 y => ?_⟩
      obtain ⟨rfl, d, hd, rd⟩ := wk.yld n _ x H2 e2f hlt y
      have rd' := tz (fZ him hd) rd
      rw [gq hd] at o'
      show tO X i fb _ _ _
      refine ⟨H', a, xs', (fgt js ρ').set j (some d), ds', rfl, ha', by rw [List.getElem?_set_ne (Ne.symm hij)]; exact hia', (Envs.fgt js E').set rd', r', ?_⟩
      unfold ki at o'
      match hb' : fb ((fgt js ρ').set j (some d)) ds' with
      | none => rw [hb'] at o'; exact o'
      | some (.rt r) => rw [hb'] at o'; exact o'
      | some (.nx ρ2 ds2) => rw [hb'] at o'; exact fun σ2 H3 xs3 e3 h3 hi3 E3 r3 => ⟨H3, xs3, ρ2, ds2, rfl, h3, e2.trans e3, hi3, E3, r3, OutW.mono e3 o'⟩
    · have hn' : n = us.length := by omega
      subst hn'
      rw [List.drop_length] at o'
      exact .inl ⟨wk.stop _ e2f, o' σ' H' xs' (.refl H') ha' hia' (Envs.fgt js E') r'⟩
  · rw [if_neg him] at o0
    exact o0.elim⟩
end FD
namespace FD
open PySem PySem.Spec PyProof.Rows L2 PySem.W
def kj : Dv → Bool
 | .bl _ => true
 | .int _ => true
 | _ => false
theorem wA (K : PySem.W.Frag) (d : Dv) : PySem.W.kitOne K (.type (tyD d)) (.type "int") = some (kj d) := by cases d <;> kernel_rfl
theorem zq : bootBuiltins (Str.ofString "int") = some (.type "int") := by kernel_rfl
def Bi : List Dv → Option (Rs Dv)
 | [.int i, .int j] => some (.ok (.int (if j > i then j else i)))
 | _ => none
def zr : List Dv → Option (Rs Dv)
 | [.int i, .int j] => some (.ok (.int (if j < i then j else i)))
 | _ => none
section
variable {X : Cx} {p pos : Pos} {e : Expr} {es : List Expr} {ga : FnA}
theorem zt (hc : X.calm = true) (hg : Gl X "max") (hm : X.mg "max" = none) (ha : FA X (e :: es) ga) (he : starEach (e :: es) X.env = (false, eval e X.env) :: starEach es X.env := by kernel_rfl) (hpl : (backTo pos (starEach es X.env)).any (·.1) = false := by kernel_rfl) : FE X (.Call (.Name "max" p) (e :: es) [] pos) (fB1 Bi ga) :=
 bu (cG (pf hc) hg hm PyProof.Rows.boot_max ha.h (by decide) (by decide) he hpl) fun σ H Q ρ E o => ⟨ρ, E, OutA.bind o fun ds vs H1 e1 rs o1 => by
  unfold Bi at o1
  split at o1
  · rename_i i j
    obtain ⟨v, v2, rfl, r, r2⟩ := vY rs
    cases (show v = .int i from r)
    cases (show v2 = .int j from r2)
    exact ⟨i, j, rfl, o1 _ H1 (.refl H1) rfl⟩
  · exact o1.elim⟩
theorem zu (hc : X.calm = true) (hg : Gl X "min") (hm : X.mg "min" = none) (ha : FA X (e :: es) ga) (he : starEach (e :: es) X.env = (false, eval e X.env) :: starEach es X.env := by kernel_rfl) (hpl : (backTo pos (starEach es X.env)).any (·.1) = false := by kernel_rfl) : FE X (.Call (.Name "min" p) (e :: es) [] pos) (fB1 zr ga) :=
 bu (cG (ph hc) hg hm PyProof.Rows.boot_min ha.h (by decide) (by decide) he hpl) fun σ H Q ρ E o => ⟨ρ, E, OutA.bind o fun ds vs H1 e1 rs o1 => by
  unfold zr at o1
  split at o1
  · rename_i i j
    obtain ⟨v, v2, rfl, r, r2⟩ := vY rs
    cases (show v = .int i from r)
    cases (show v2 = .int j from r2)
    exact ⟨i, j, rfl, o1 _ H1 (.refl H1) rfl⟩
  · exact o1.elim⟩
end
def leX : Dv → Dv → Option (Rs Dv)
 | .int i, .int j => some (.ok (.bl (decide (i ≤ j))))
 | .str x, .str y => some (.ok (.bl (!decide (y.cps.toList < x.cps.toList))))
 | _, _ => none
def Ds : R2 := fun x y H Q => rI0 (fun i j => .bl (decide (i ≤ j))) x y H Q ∨ ∃ i j, x = .str i ∧ y = .str j ∧ Q (.bl (!decide (j.cps.toList < i.cps.toList))) H
section
variable {X : Cx}
theorem p0 : OpR X (compareOp .LtE) (fun x y H Q => ∃ i j, x = .str i ∧ y = .str j ∧ Q (.bl (!decide (j.cps.toList < i.cps.toList))) H) := by
 intro pins s σ H x y v u Q I rx ry h
 obtain ⟨i, j, rfl, rfl, q⟩ := h
 obtain ⟨t, rfl⟩ := rx
 obtain ⟨t', rfl⟩ := ry
 exact PySem.P.le_str ⟨.bl _, H, I, rfl, q⟩
theorem Ck : OpR X (compareOp .LtE) Ds := op_le.or p0
theorem Cl : GOp X Ds leX := by
 intro dx dy x y H Q rx ry o
 cases dx <;> cases dy <;> try exact (show False from o).elim
 · rename_i i j
   exact .inl ⟨i, j, rx, ry, o _ H (.refl H) rfl⟩
 · rename_i i j
   exact .inr ⟨i, j, rx, ry, o _ H (.refl H) rfl⟩
end
structure XAllS (K : PySem.W.Frag) (S : List Nat) (cls : Nat → Addr) (CJ : Addr) : Prop where
 at_ : ∀ c ∈ S, nsIn K mainGlobals (xnm c) = some (some (.ref (cls c))) ∧ excIn K (cls c) bmV "ValueError.__new__" = true ∧ XI K (cls c) ∧ mroIn K (cls c) (.ref CJ) = some true ∧ mroIn K (cls c) (.ref (cls c)) = some true ∧ kitOne K (.ref (cls c)) (.type "ValueError") = some true ∧ ∀ d ∈ S, kitOne K (.ref (cls c)) (.ref (cls d)) = some (c == d)
 exJ : excIn K CJ bmV "ValueError.__new__" = true
section
variable {K : PySem.W.Frag} {S : List Nat} {cls : Nat → Addr} {CJ : Addr} (x : XAllS K S cls CJ)
include x
theorem XAllS.same {c : Nat} {C : Addr} (h : c ∈ S) (q : nsIn K mainGlobals (xnm c) = some (some (.ref C))) : C = cls c := by
 have z := (x.at_ c h).1
 rw [q] at z
 cases z
 rfl
end
section
variable {X : Cx} {ex hx : Expr} {f g : FnE} {J : Str} {CJ : Addr} {np rp rp2 hpos pos : Pos}
end
end FD
namespace ST
open PySem PySem.SetTable
def stp (m i : Nat) : Nat := (i * 5 + 1) % (m + 1)
def it (m : Nat) : Nat → Nat → Nat
 | 0, i => i
 | k + 1, i => it m k (stp m i)
def oo (m : Nat) : Bool := (List.range (m + 1)).all fun i => (List.range (m + 1)).all fun j => (List.range (m + 1)).any fun k => it m k i == j
theorem D7 : oo 7 = true := by decide +kernel
theorem Co : oo 31 = true := by decide +kernel
theorem zv {m : Nat} (h : oo m = true) {i j : Nat} (hi : i ≤ m) (hj : j ≤ m) : ∃ k, k ≤ m ∧ it m k i = j := by
 unfold oo at h
 have h1 := List.all_eq_true.mp h i (List.mem_range.mpr (by omega))
 have h2 := List.all_eq_true.mp h1 j (List.mem_range.mpr (by omega))
 obtain ⟨k, hk, e⟩ := List.any_eq_true.mp h2
 exact ⟨k, by have := List.mem_range.mp hk; omega, by simpa using e⟩
def lp (m : Nat) : Nat → Nat × Nat → Nat × Nat
 | 0, x => x
 | r + 1, x => lp m r (leap m x.1 x.2)
theorem p8 (m : Nat) : ∀ (a b : Nat) (x : Nat × Nat), lp m (a + b) x = lp m b (lp m a x)
 | 0, b, x => by rw [Nat.zero_add]; rfl
 | a + 1, b, x => by
  rw [Nat.succ_add]
  show lp m (a + b) (leap m x.1 x.2) = lp m b (lp m a (leap m x.1 x.2))
  exact p8 m a b _
theorem wB (m : Nat) : ∀ (r : Nat) (x : Nat × Nat), x.1 ≤ m → (lp m r x).1 ≤ m
 | 0, x, h => h
 | r + 1, x, h => wB m r _ (by
  show (x.1 * 5 + 1 + x.2 / 32) % (m + 1) ≤ m
  exact Nat.le_of_lt_succ (Nat.mod_lt _ (Nat.succ_pos m)))
theorem zw (m : Nat) : ∀ (r : Nat) (x : Nat × Nat), (lp m r x).2 = x.2 / 32 ^ r
 | 0, x => by simp [lp]
 | r + 1, x => by
  show (lp m r (leap m x.1 x.2)).2 = _
  rw [zw m r]
  show x.2 / 32 / 32 ^ r = _
  rw [Nat.div_div_eq_div_mul, Nat.pow_succ, Nat.mul_comm]
theorem p9 (m : Nat) : ∀ (r : Nat) (i : Nat), (lp m r (i, 0)).1 = it m r i
 | 0, i => rfl
 | r + 1, i => by
  show (lp m r (leap m i 0)).1 = it m r (stp m i)
  have e : leap m i 0 = (stp m i, 0) := by unfold leap stp; simp
  rw [e]
  exact p9 m r _
theorem qa {m : Nat} (c : oo m = true) {i pt j : Nat} (hi : i ≤ m) (hp : pt < 2 ^ 64) (hj : j ≤ m) : ∃ r, r ≤ 13 + m ∧ (lp m r (i, pt)).1 = j := by
 have h0 : (lp m 13 (i, pt)).2 = 0 := by
  rw [zw]
  exact Nat.div_eq_of_lt (by
   show pt < 32 ^ 13; have : (32 : Nat) ^ 13 = 2 ^ 65 := by decide
   omega)
 obtain ⟨k, hk, e⟩ := zv c (wB m 13 (i, pt) hi) hj
 refine ⟨13 + k, by omega, ?_⟩
 rw [p8]
 have e2 : lp m 13 (i, pt) = ((lp m 13 (i, pt)).1, 0) := by rw [← h0]
 rw [e2, p9]
 exact e
def advN (t : SetTable) : Nat → Probe → Probe
 | 0, p => p
 | n + 1, p => advN t n (t.advance p)
theorem bD (t : SetTable) : ∀ (a b : Nat) (p : Probe), advN t (a + b) p = advN t b (advN t a p)
 | 0, b, p => by rw [Nat.zero_add]; rfl
 | a + 1, b, p => by
  rw [Nat.succ_add]
  exact bD t a b _
structure Vp (t : SetTable) (p : Probe) : Prop where
 i : p.i ≤ t.mask
 pt : p.perturb < 2 ^ 64
 more : p.more ≤ 9
 dm : p.dummy = none
theorem gw (m i : Nat) : runEnd m i - i ≤ 9 := by unfold runEnd; split <;> omega
def iv (t : SetTable) (p : Probe) : Probe := { p with j := (leap t.mask p.i p.perturb).1, more := runEnd t.mask (leap t.mask p.i p.perturb).1 - (leap t.mask p.i p.perturb).1, i := (leap t.mask p.i p.perturb).1, perturb := (leap t.mask p.i p.perturb).2 }
theorem ji (t : SetTable) (p : Probe) (h : p.more = 0) : t.advance p = iv t p := by
 unfold SetTable.advance iv
 rw [if_neg (by omega)]
theorem jj (t : SetTable) (p : Probe) (h : 0 < p.more) : t.advance p = { p with j := p.j + 1, more := p.more - 1 } := by
 unfold SetTable.advance
 rw [if_pos h]
theorem gy (t : SetTable) : ∀ (k : Nat) (p : Probe), p.more = k → advN t (k + 1) p = iv t p
 | 0, p, h => ji t p h
 | k + 1, p, h => by
  show advN t (k + 1) (t.advance p) = _
  rw [jj t p (by omega), gy t k _ (by show p.more - 1 = k; omega)]
  rfl
theorem qb (m i pt : Nat) (h : pt < 2 ^ 64) : (leap m i pt).2 < 2 ^ 64 := Nat.lt_of_le_of_lt (Nat.div_le_self _ _) h
theorem Vp.leap {t : SetTable} {p : Probe} (v : Vp t p) : Vp t (iv t p) := ⟨by
 show (p.i * 5 + 1 + p.perturb / 32) % (t.mask + 1) ≤ t.mask
 exact Nat.le_of_lt_succ (Nat.mod_lt _ (Nat.succ_pos t.mask)), (show (SetTable.leap t.mask p.i p.perturb).2 < 2 ^ 64 from qb _ _ _ v.pt), (show runEnd t.mask (SetTable.leap t.mask p.i p.perturb).1 - (SetTable.leap t.mask p.i p.perturb).1 ≤ 9 from gw _ _), v.dm⟩
theorem Vp.adv {t : SetTable} {p : Probe} (v : Vp t p) : Vp t (t.advance p) := by
 by_cases h : 0 < p.more
 · rw [jj t p h]; exact ⟨v.i, v.pt, by show p.more - 1 ≤ 9; have := v.more; omega, v.dm⟩
 · rw [ji t p (by omega)]; exact v.leap
theorem Vp.advN {t : SetTable} : ∀ (n : Nat) {p : Probe}, Vp t p → Vp t (advN t n p)
 | 0, p, v => v
 | n + 1, p, v => Vp.advN n v.adv
theorem mS (t : SetTable) : ∀ (r : Nat) (p : Probe), Vp t p → ∃ n, n ≤ 10 * r ∧ (advN t n p).i = (lp t.mask r (p.i, p.perturb)).1 ∧ (r ≠ 0 → (advN t n p).j = (advN t n p).i)
 | 0, p, v => ⟨0, by omega, rfl, fun h => absurd rfl h⟩
 | r + 1, p, v => by
  obtain ⟨n, h1, h2, h3⟩ := mS t r (iv t p) v.leap
  refine ⟨p.more + 1 + n, by have := v.more; omega, ?_, fun _ => ?_⟩
  · rw [bD, gy t p.more p rfl, h2]; rfl
  · rw [bD, gy t p.more p rfl]
    by_cases hr : r = 0
    · subst hr
      have hn : n = 0 := by omega
      subst hn
      rfl
    · exact h3 hr
structure Tb (t : SetTable) (n : Nat) : Prop where
 size : t.place.size = n
 dm : t.dummies = #[]
 cyc : oo t.mask = true
 room : n ≤ t.mask
theorem qc (j : Nat) : has #[] j = false := by unfold has; simp
theorem dl {t : SetTable} {n : Nat} (T : Tb t n) (j : Nat) : t.slot j = .empty ∨ ∃ i, t.slot j = .live i ∧ t.place[i]? = some j := by
 unfold SetTable.slot
 dsimp only
 split
 · rename_i h
   exact .inr ⟨_, rfl, by simpa using h⟩
 · rw [T.dm, qc]
   exact .inl rfl
theorem qd : ∀ (m : Nat) (l : List Nat), l.length ≤ m → ∃ j, j ≤ m ∧ j ∉ l
 | 0, l, h => ⟨0, Nat.le_refl _, by
  have : l = [] := List.length_eq_zero_iff.mp (by omega)
  simp [this]⟩
 | m + 1, l, h => by
  by_cases hm : (m + 1) ∈ l
  · obtain ⟨j, hj, hn⟩ := qd m (l.erase (m + 1)) (by rw [List.length_erase_of_mem hm]; omega)
    refine ⟨j, by omega, fun hl => hn ?_⟩
    exact (List.mem_erase_of_ne (by omega)).mpr hl
  · exact ⟨m + 1, Nat.le_refl _, hm⟩
theorem tD {t : SetTable} {n : Nat} (T : Tb t n) : ∃ j, j ≤ t.mask ∧ t.slot j = .empty := by
 obtain ⟨j, hj, hn⟩ := qd t.mask t.place.toList (by simp [T.size, T.room])
 refine ⟨j, hj, ?_⟩
 rcases dl T j with h | ⟨i, h, e⟩
 · exact h
 · exact absurd (Array.mem_toList_iff.mpr (Array.mem_of_getElem? e)) hn
theorem Cp {t : SetTable} {n : Nat} (T : Tb t n) {p : Probe} (v : Vp t p) : ∃ N, N < 10 * turns t.mask ∧ t.slot (advN t N p).j = .empty := by
 obtain ⟨j, hj, he⟩ := tD T
 obtain ⟨r, hr, e⟩ := qa T.cyc (wB t.mask 1 (p.i, p.perturb) v.i) (by
  show (leap t.mask p.i p.perturb).2 < 2 ^ 64
  exact qb _ _ _ v.pt) hj (pt := (lp t.mask 1 (p.i, p.perturb)).2)
 obtain ⟨N, h1, h2, h3⟩ := mS t (1 + r) p v
 refine ⟨N, by unfold turns; omega, ?_⟩
 rw [h3 (by omega), h2, p8]
 rw [show lp t.mask 1 (p.i, p.perturb) = ((lp t.mask 1 (p.i, p.perturb)).1, (lp t.mask 1 (p.i, p.perturb)).2) from rfl, e]
 exact he
theorem first {P : Nat → Prop} [DecidablePred P] : ∀ (b : Nat), (∃ n, n < b ∧ P n) → ∃ n, n < b ∧ P n ∧ ∀ k, k < n → ¬ P k
 | 0, ⟨n, h, _⟩ => absurd h (Nat.not_lt_zero _)
 | b + 1, ⟨n, h, hp⟩ => by
  by_cases q : ∃ n, n < b ∧ P n
  · obtain ⟨n, h1, h2, h3⟩ := first b q
    exact ⟨n, by omega, h2, h3⟩
  · have hn : n = b := by
     have : ¬ n < b := fun z => q ⟨n, z, hp⟩
     omega
    subst hn
    exact ⟨n, by omega, hp, fun k hk z => q ⟨k, hk, z⟩⟩
theorem zx {t : SetTable} {n : Nat} (T : Tb t n) {p : Probe} (v : Vp t p) : ∃ N, N < 10 * turns t.mask ∧ t.slot (advN t N p).j = .empty ∧ ∀ k, k < N → t.slot (advN t k p).j ≠ .empty :=
 first (P := fun n => t.slot (advN t n p).j = .empty) _ (Cp T v)
theorem uT {t : SetTable} {n : Nat} (T : Tb t n) (hashAt : Nat → Int) (h : Int) : ∀ (N fuel : Nat) (p : Probe), Vp t p → N < fuel → t.slot (advN t N p).j = .empty → (∀ k, k < N → t.slot (advN t k p).j ≠ .empty) →
 probe.go t hashAt h fuel p = some (.empty (advN t N p).j none) ∨ ∃ m i, m < N ∧ t.slot (advN t m p).j = .live i ∧ t.place[i]? = some (advN t m p).j ∧ hashAt i = h ∧ probe.go t hashAt h fuel p = some (.candidate (advN t m p).j i (advN t (m + 1) p))
 | N, 0, p, v, hf, _, _ => absurd hf (Nat.not_lt_zero _)
 | 0, fuel + 1, p, v, hf, he, _ => by
  refine .inl ?_
  unfold probe.go
  rw [show t.slot p.j = .empty from he]
  show some (Met.empty p.j p.dummy) = _
  rw [v.dm]
  rfl
 | N + 1, fuel + 1, p, v, hf, he, hn => by
  rcases dl T p.j with h0 | ⟨i, h1, h2⟩
  · exact absurd h0 (hn 0 (by omega))
  · by_cases hh : hashAt i = h
    · refine .inr ⟨0, i, by omega, h1, h2, hh, ?_⟩
      unfold probe.go
      rw [h1]
      dsimp only
      rw [if_pos (by simpa using hh)]
      rfl
    · have hg : probe.go t hashAt h (fuel + 1) p = probe.go t hashAt h fuel (t.advance p) := by
       conv => lhs; unfold probe.go
       rw [h1]
       dsimp only
       rw [if_neg (by simpa using hh)]
      rcases uT T hashAt h N fuel (t.advance p) v.adv (by omega) he (fun k hk => hn (k + 1) (by omega)) with q | ⟨m, i', q1, q2, q3, q4, q5⟩
      · exact .inl (by rw [hg, q]; rfl)
      · exact .inr ⟨m + 1, i', by omega, q2, q3, q4, by rw [hg, q5]; rfl⟩
theorem lL {t : SetTable} (h : Int) : Vp t (t.probeStart h) := ⟨by
 show bits h % (t.mask + 1) ≤ t.mask
 exact Nat.le_of_lt_succ (Nat.mod_lt _ (Nat.succ_pos t.mask)), by
 show bits h < 2 ^ 64
 unfold bits
 have h1 := Int.emod_nonneg h (show (2 ^ 64 : Int) ≠ 0 by decide)
 have h2 := Int.emod_lt_of_pos h (show (0 : Int) < 2 ^ 64 by decide)
 omega, gw _ _, rfl⟩
theorem kl {m : Nat} {owner : Array (Option Nat)} : ∀ (fuel i pt : Nat), i ≤ m → (∃ r, r < fuel ∧ (owner.getD (lp m r (i, pt)).1 (some 0)).isNone = true) → ∃ j, layClean.free m owner fuel i pt = some j ∧ (owner.getD j (some 0)).isNone = true
 | 0, i, pt, _, ⟨r, h, _⟩ => absurd h (Nat.not_lt_zero _)
 | fuel + 1, i, pt, hi, ⟨r, h, e⟩ => by
  unfold layClean.free
  split
  · rename_i k hk
    exact ⟨i + k, rfl, by simpa using List.find?_some hk⟩
  · rename_i hk
    cases r with
    | zero =>
     have hm : 0 ∈ List.range (runEnd m i + 1 - i) := List.mem_range.mpr (by unfold runEnd; split <;> omega)
     have := List.find?_eq_none.mp hk 0 hm
     exact absurd (show (owner.getD (i + 0) (some 0)).isNone = true from e) this
    | succ r =>
     exact kl fuel _ _ (by
      show (i * 5 + 1 + pt / 32) % (m + 1) ≤ m
      exact Nat.le_of_lt_succ (Nat.mod_lt _ (Nat.succ_pos m))) ⟨r, by omega, e⟩
theorem uU : ∀ (l : List (Option Nat)) (j k : Nat), l[j]? = some none → ((l.set j (some k)).filterMap id).Perm (k :: l.filterMap id)
 | [], j, k, h => by simp at h
 | x :: l, 0, k, h => by
  have : x = none := by simpa using h
  subst this
  simp
 | x :: l, j + 1, k, h => by
  have ih := uU l j k (by simpa using h)
  cases x with
  | none => simpa using ih
  | some y =>
   show List.Perm (y :: (l.set j (some k)).filterMap id) (k :: y :: l.filterMap id)
   exact (ih.cons y).trans (List.Perm.swap ..)
theorem qe : ∀ (l : List (Option Nat)), (l.filterMap id).length < l.length → ∃ j, j < l.length ∧ l[j]? = some none
 | [], h => by simp at h
 | none :: l, h => ⟨0, by simp, rfl⟩
 | some y :: l, h => by
  obtain ⟨j, h1, h2⟩ := qe l (by simpa using h)
  exact ⟨j + 1, by simpa using h1, by simpa using h2⟩
def km (m : Nat) (acc : Option (Array (Option Nat) × Nat)) (h : Int) : Option (Array (Option Nat) × Nat) := do
 let (owner, k) ← acc
 let j ← layClean.free m owner (turns m) (bits h % (m + 1)) (bits h)
 pure (owner.setIfInBounds j (some k), k + 1)
theorem wC (h : Int) : bits h < 2 ^ 64 := by
 unfold bits
 have h1 := Int.emod_nonneg h (show (2 ^ 64 : Int) ≠ 0 by decide)
 have h2 := Int.emod_lt_of_pos h (show (0 : Int) < 2 ^ 64 by decide)
 omega
theorem getD_none {owner : Array (Option Nat)} {j : Nat} (h : (owner.getD j (some 0)).isNone = true) : j < owner.size ∧ owner.toList[j]? = some none := by
 rw [Array.getD_eq_getD_getElem?] at h
 cases q : owner[j]? with
 | none => rw [q] at h; simp at h
 | some x =>
  rw [q] at h
  have hx : x = none := by simpa using h
  subst hx
  refine ⟨(Array.getElem?_eq_some_iff.mp q).1, by rw [Array.getElem?_toList]; exact q⟩
theorem qf {m : Nat} (c : oo m = true) : ∀ (hs : List Int) (owner : Array (Option Nat)) (k : Nat), owner.size = m + 1 → (owner.toList.filterMap id).Perm (List.range k) → k + hs.length ≤ m →
 ∃ o2, hs.foldl (km m) (some (owner, k)) = some (o2, k + hs.length) ∧ o2.size = m + 1 ∧ (o2.toList.filterMap id).Perm (List.range (k + hs.length))
 | [], owner, k, h1, h2, h3 => ⟨owner, rfl, h1, h2⟩
 | h :: hs, owner, k, h1, h2, h3 => by
  have hk : k + (hs.length + 1) ≤ m := by simpa using h3
  obtain ⟨j0, a1, a2⟩ := qe owner.toList (by rw [h2.length_eq, List.length_range]; simp only [Array.length_toList, h1]; omega)
  have hj0 : j0 ≤ m := by simp only [Array.length_toList, h1] at a1; omega
  obtain ⟨r, b1, b2⟩ := qa c (i := bits h % (m + 1)) (pt := bits h) (Nat.le_of_lt_succ (Nat.mod_lt _ (Nat.succ_pos m))) (wC h) hj0
  obtain ⟨j, f1, f2⟩ := kl (m := m) (owner := owner) (turns m) (bits h % (m + 1)) (bits h) (Nat.le_of_lt_succ (Nat.mod_lt _ (Nat.succ_pos m))) ⟨r, by unfold turns; omega, by
   rw [b2, Array.getD_eq_getD_getElem?]
   rw [Array.getElem?_toList] at a2
   rw [a2]; rfl⟩
  obtain ⟨g1, g2⟩ := getD_none f2
  have e : km m (some (owner, k)) h = some (owner.setIfInBounds j (some k), k + 1) := by
   show (layClean.free m owner (turns m) (bits h % (m + 1)) (bits h)).bind (fun j => some (owner.setIfInBounds j (some k), k + 1)) = _
   rw [f1]; rfl
  rw [List.foldl_cons, e]
  obtain ⟨o2, c1, c2, c3⟩ := qf c hs (owner.setIfInBounds j (some k)) (k + 1) (by rw [Array.size_setIfInBounds]; exact h1) (by
   rw [Array.toList_setIfInBounds]
   refine (uU _ _ _ g2).trans ((h2.cons k).trans ?_)
   rw [List.range_succ]
   exact (List.perm_append_singleton k (List.range k)).symm) (by omega)
  refine ⟨o2, ?_, c2, ?_⟩
  · rw [c1]; simp only [List.length_cons]; congr 2; omega
  · simp only [List.length_cons]; rw [show k + (hs.length + 1) = k + 1 + hs.length by omega]; exact c3
theorem gz {m : Nat} (c : oo m = true) (hs : Array Int) (hl : hs.size ≤ m) : ∃ o2, layClean m hs = some o2 ∧ o2.size = m + 1 ∧ (o2.toList.filterMap id).Perm (List.range hs.size) := by
 obtain ⟨o2, c1, c2, c3⟩ := qf c hs.toList (Array.replicate (m + 1) none) 0 (by simp) (by simp [List.filterMap_replicate]) (by simpa using hl)
 refine ⟨o2, ?_, c2, by simpa using c3⟩
 unfold layClean
 rw [← Array.foldl_toList]
 have e : (List.foldl (fun acc h => do
  let (owner, k) ← acc
  let j ← layClean.free m owner (turns m) (bits h % (m + 1)) (bits h)
  pure (owner.setIfInBounds j (some k), k + 1)) (some (Array.replicate (m + 1) none, 0)) hs.toList : Option (Array (Option Nat) × Nat)) = hs.toList.foldl (km m) (some (Array.replicate (m + 1) none, 0)) := rfl
 rw [e, c1]
 rfl
theorem mT : ∀ (l : List (Option Nat)) (base : Nat), ((List.range l.length).filterMap fun j => (l.getD j none).map (fun x => (base + j, x))).map (·.2) = l.filterMap id
 | [], base => rfl
 | x :: l, base => by
  rw [List.length_cons, List.range_succ_eq_map, List.filterMap_cons, List.filterMap_map]
  have ih := mT l (base + 1)
  have e : (List.range l.length).filterMap ((fun j => ((x :: l).getD j none).map (fun x => (base + j, x))) ∘ Nat.succ) = (List.range l.length).filterMap fun j => (l.getD j none).map (fun x => (base + 1 + j, x)) := by
   congr 1
   funext j
   show ((x :: l).getD (j + 1) none).map _ = _
   simp only [List.getD_cons_succ]
   rw [show base + (j + 1) = base + 1 + j by omega]
  rw [e]
  cases x with
  | none => simpa using ih
  | some y =>
   simp only [List.getD_cons_zero, Option.map_some, List.map_cons]
   rw [ih]
   rfl
theorem wD {m finger moves : Nat} {led plain : Bool} (c : oo m = true) (hs : Array Int) (hl : hs.size ≤ m) : ∃ t order, laid m finger moves led plain hs = some (t, order) ∧ t.mask = m ∧ t.moves = moves ∧ t.led = led ∧ t.plain = plain ∧ Tb t hs.size ∧ order.toList.Perm (List.range hs.size) := by
 obtain ⟨o2, c1, c2, c3⟩ := gz c hs hl
 have e := mT o2.toList 0
 have hlen : ((List.range (m + 1)).filterMap fun j => (o2.getD j none).map (j, ·)) = ((List.range o2.toList.length).filterMap fun j => (o2.toList.getD j none).map (fun x => (0 + j, x))) := by
  rw [Array.length_toList, c2]
  congr 1
  funext j
  rw [Nat.zero_add, Array.getD_eq_getD_getElem?, List.getD_eq_getElem?_getD, Array.getElem?_toList]
 refine ⟨_, _, by unfold laid; rw [c1]; rfl, rfl, rfl, rfl, rfl, ⟨?_, rfl, c, hl⟩, ?_⟩
 · simp only [List.size_toArray, List.length_map]
   rw [hlen]
   have := congrArg List.length e
   rw [List.length_map] at this
   rw [this, c3.length_eq, List.length_range]
 · rw [List.toList_toArray, hlen, e]
   exact c3
theorem eA {α : Type} (xs : Array α) (p : Nat) (x : α) (h : p ≤ xs.size) : (insertAt xs p x).size = xs.size + 1 := by
 unfold insertAt
 simp only [Array.size_append, Array.size_push, Array.size_extract]
 omega
theorem jl (xs : Array Nat) (j : Nat) : below xs j ≤ xs.size := by
 unfold below
 have : ∀ (fuel lo hi : Nat), lo ≤ hi → hi ≤ xs.size → below.go xs j fuel lo hi ≤ xs.size := by
  intro fuel
  induction fuel with
  | zero => intro lo hi h1 h2; unfold below.go; omega
  | succ fuel ih =>
   intro lo hi h1 h2
   unfold below.go
   split
   · rename_i hlt
     dsimp only
     split
     · exact ih _ _ (by omega) h2
     · exact ih _ _ (by omega) (by omega)
   · omega
 exact this _ _ _ (Nat.zero_le _) (Nat.le_refl _)
theorem zy {t : SetTable} {n : Nat} (T : Tb t n) (h : n + 1 ≤ t.mask) (j : Nat) : Tb (t.put j).1 (n + 1) ∧ (t.put j).2 ≤ n ∧ (t.put j).1.mask = t.mask ∧ (t.put j).1.led = t.led ∧ (t.put j).1.moves = t.moves := by
 unfold SetTable.put
 refine ⟨⟨?_, ?_, T.cyc, h⟩, ?_, rfl, rfl, rfl⟩
 · show (insertAt t.place (below t.place j) j).size = n + 1
   rw [eA _ _ _ (jl _ _), T.size]
 · show (if has t.dummies j then eraseAt t.dummies (below t.dummies j) else t.dummies) = #[]
   rw [T.dm, qc]
   rfl
 · show below t.place j ≤ n
   rw [← T.size]
   exact jl _ _
section
variable {prog : Program} {w : World} {A : Around} {E : Value → Shared → Prop} {s : Shared}
abbrev TK (prog : Program) (w : World) (h : Heap) (k : List Str) (a : Addr) : Prop := IsTupleKey (strKind prog w) h k a
abbrev hsh (prog : Program) (w : World) (k : List Str) : Int := tupleKeyHash (strKind prog w) k
theorem kn {k : List Str} {vs : List Value} (h : ItemsAre (strKind prog w) k vs) : ∀ v ∈ vs, ∃ x t, v = .str x t := by
 induction h with
 | nil => intro v hv; simp at hv
 | @cons k' v' ks vs h1 _ ih =>
  intro v hv
  rcases List.mem_cons.mp hv with rfl | hv
  · obtain ⟨t, rfl⟩ := Value.isStrOf_shape h1
    exact ⟨_, _, rfl⟩
  · exact ih v hv
theorem qg {k : List Str} {a : Addr} {Q : Bool → Shared → Prop} (hk : TK prog w s.heap k a) (h : Q false s) : wpAny (model prog w) A (ofAClassStatement 8 (.ref a)) Q E s := by
 have hT := hk.typeIs
 obtain ⟨o, items, n, ho, _, hd, hi⟩ := hk
 unfold ofAClassStatement
 refine wpAny_bind (wpAny_typeOf hT ?_)
 show wpAny _ _ ((if ("tuple" == "tuple") = true then pure true else isSubtype (.type "tuple") (.type "tuple")) >>= _) _ _ s
 rw [if_pos (by decide)]
 refine wpAny_bind (wpAny_pure ?_)
 simp only [Bool.not_true, Bool.false_eq_true, if_false]
 refine wpAny_bind (wpAny_seqItems ho hd ?_)
 refine wpAny_bind ?_
 show wpAny _ _ (forIn items _ _) _ _ s
 rw [← Array.forIn_toList]
 refine wpAny_forIn_list _ (fun rest r s' => r.1 = none ∧ s' = s ∧ ∀ v ∈ rest, ∃ x t, v = Value.str x t) _ ?_ ?_ _ _ ⟨rfl, rfl, kn hi⟩
 · rintro v rest r s' ⟨hr, rfl, hall⟩
   obtain ⟨x, t, rfl⟩ := hall v List.mem_cons_self
   refine wpAny_bind (wpAny_pure ?_)
   simp only [Bool.false_eq_true, if_false]
   exact wpAny_pure ⟨rfl, rfl, fun u hu' => hall u (List.mem_cons_of_mem _ hu')⟩
 · rintro ⟨r1, r2⟩ s' ⟨hr, rfl, _⟩
   simp only at hr
   subst hr
   exact wpAny_pure h
theorem uV {k : List Str} {b : Addr} (hk : TK prog w s.heap k b) {l : List Value} (hl : ∀ v ∈ l, ∃ k' a, v = .ref a ∧ TK prog w s.heap k' a) {Q : Bool → Shared → Prop} (h : Q false s) : wpAny (model prog w) A (searchCouldBeSeen (.ref b) l) Q E s := by
 unfold searchCouldBeSeen
 refine wpAny_bind ?_
 refine wpAny_forIn_list _ (fun rest r s' => r.1 = none ∧ s' = s ∧ ∀ v ∈ rest, ∃ k' a, v = Value.ref a ∧ TK prog w s.heap k' a) _ ?_ ?_ _ _ ⟨rfl, rfl, hl⟩
 · rintro v rest r s' ⟨hr, rfl, hall⟩
   obtain ⟨k', a, rfl, ha⟩ := hall v List.mem_cons_self
   have hrest : ∀ v ∈ rest, ∃ k' a, v = Value.ref a ∧ TK prog w s'.heap k' a := fun u hu' => hall u (List.mem_cons_of_mem _ hu')
   dsimp only
   split
   · exact wpAny_pure ⟨rfl, rfl, hrest⟩
   · refine wpAny_bind (wpAny_eqIsQuiet_tuple hk ?_)
     simp only [Bool.not_true, Bool.false_eq_true, if_false]
     refine wpAny_bind (wpAny_eqIsQuiet_tuple ha ?_)
     simp only [Bool.not_true, Bool.false_eq_true, if_false]
     refine wpAny_bind (qg hk ?_)
     simp only [Bool.false_eq_true, if_false]
     refine wpAny_bind (qg ha ?_)
     simp only [Bool.false_eq_true, if_false]
     exact wpAny_pure ⟨rfl, rfl, hrest⟩
 · rintro ⟨r1, r2⟩ s' ⟨hr, rfl, _⟩
   simp only at hr
   subst hr
   exact wpAny_pure h
theorem lM {k : List Str} {a : Addr} {Q : Bool → Shared → Prop} (hk : TK prog w s.heap k a) (h : ∀ b, Q b s) : wpAny (model prog w) A (hashByValue 8 (.ref a)) Q E s := by
 have hT := hk.typeIs
 obtain ⟨o, items, n, ho, _, hd, hi⟩ := hk
 unfold hashByValue
 refine wpAny_bind (wpAny_specialOf hT F.slot_tuple_hash.lookup ?_)
 dsimp only
 refine wpAny_bind (wpAny_seqItems ho hd ?_)
 refine wpAny_bind ?_
 show wpAny _ _ (forIn items _ _) _ _ s
 rw [← Array.forIn_toList]
 refine wpAny_forIn_list _ (fun rest r s' => r.1 = none ∧ s' = s ∧ ∀ v ∈ rest, ∃ x t, v = Value.str x t) _ ?_ ?_ _ _ ⟨rfl, rfl, kn hi⟩
 · rintro v rest r s' ⟨hr, rfl, hall⟩
   obtain ⟨x, t, rfl⟩ := hall v List.mem_cons_self
   refine wpAny_bind (wpAny_pure ?_)
   simp only [Bool.not_false, if_true]
   refine wpAny_pure ?_
   exact wpAny_pure (h _)
 · rintro ⟨r1, r2⟩ s' ⟨hr, rfl, _⟩
   simp only at hr
   subst hr
   exact wpAny_pure (h _)
def Ent (prog : Program) (w : World) (h : Heap) (ks : List (List Str)) (es : List (Int × Value)) : Prop := ∀ e ∈ es, ∃ k a, k ∈ ks ∧ e.2 = .ref a ∧ TK prog w h k a
theorem eX {t : SetTable} {n : Nat} (T : Tb t n) : t.fits n = true := by
 unfold SetTable.fits SetTable.fill
 rw [T.size, T.dm]
 simp [T.room]
end
section
variable {prog : Program} {w : World} {A : Around} {E : Value → Shared → Prop} {s : Shared}
def SetT (prog : Program) (w : World) (h : Heap) (S : Addr) (ks : List (List Str)) (n : Nat) : Prop :=
 ∃ o es ep t, h.get? S = some o ∧ o.ExactSet ∧ o.data = .set es ep t ∧ es.size = n ∧ Tb t n ∧ ((t.mask = 7 ∧ n ≤ 4) ∨ (t.mask = 31 ∧ n ≤ 18)) ∧ Ent prog w h ks es.toList
theorem TK.keeps {h h' : Heap} {k : List Str} {a S : Addr} {o : Obj} {es ep t} (x : TK prog w h k a) (ho : h.get? S = some o) (hd : o.data = .set es ep t) (hs : Heap.SameBut S h h') : TK prog w h' k a := by
 obtain ⟨o', items, n, ho', hc, hd', hi⟩ := x
 have hne : a ≠ S := by
  rintro rfl
  obtain rfl : o' = o := Option.some.inj (ho'.symm.trans ho)
  rw [hd] at hd'; exact nomatch hd'
 exact ⟨o', items, n, (hs.2 a hne).trans ho', hc, hd', hi⟩
theorem Ent.keeps {h h' : Heap} {ks : List (List Str)} {l : List (Int × Value)} {S : Addr} {o : Obj} {es ep t} (x : Ent prog w h ks l) (ho : h.get? S = some o) (hd : o.data = .set es ep t) (hs : Heap.SameBut S h h') : Ent prog w h' ks l := fun e he => by
 obtain ⟨k, a, h1, h2, h3⟩ := x e he
 exact ⟨k, a, h1, h2, h3.keeps ho hd hs⟩
theorem ko {h : Heap} {S : Addr} {o : Obj} {es es' : Array (Int × Value)} {ep : Nat} {t t' : SetTable} (ho : h.get? S = some o) (hd : o.data = .set es ep t) : (h.update S (Obj.putSet es' t')).get? S = some { o with data := .set es' (ep + 1) t' } := by
 have := Heap.get?_update_self (Obj.putSet es' t') ho (by rw [putSet_of es' t' hd]; rfl)
 rw [putSet_of es' t' hd] at this; exact this
theorem Ent.insert {h : Heap} {ks : List (List Str)} {es : Array (Int × Value)} {k : List Str} {b : Addr} {p : Nat} {x : Int} (hE : Ent prog w h ks es.toList) (hb : TK prog w h k b) : Ent prog w h (k :: ks) (SetTable.insertAt es p (x, .ref b)).toList := fun e he => by
 have he' := (SetTable.insertAt_perm es p (x, Value.ref b)).mem_iff.mp he
 rw [Array.toList_push] at he'
 rcases List.mem_append.mp he' with q | q
 · obtain ⟨k', a, h1, h2, h3⟩ := hE e q
   exact ⟨k', a, List.mem_cons_of_mem _ h1, h2, h3⟩
 · rw [List.mem_singleton] at q
   subst q
   exact ⟨k, b, List.mem_cons_self, rfl, hb⟩
theorem qh {t : SetTable} {n : Nat} (T : Tb t n) : t.fill = n := by unfold SetTable.fill; rw [T.size, T.dm]; simp
theorem tE {α : Type} (es : Array α) : (List.range es.size).filterMap (fun i => es[i]?) = es.toList := by
 apply List.ext_getElem?
 intro i
 have : (List.range es.size).filterMap (fun i => es[i]?) = (List.range es.size).pmap (fun i h => es[i]) (fun i h => List.mem_range.mp h) := by
  rw [List.pmap_eq_map_attach, ← List.filterMap_eq_map]
  conv => lhs; rw [← List.attach_map_subtype_val (List.range es.size)]
  rw [List.filterMap_map]
  congr 1
  funext ⟨i, hi⟩
  simp [List.mem_range.mp hi]
 rw [this]
 simp [List.getElem?_pmap, List.getElem?_range]
 by_cases hi : i < es.size
 · simp [hi]
 · simp [hi]
end
end ST
namespace ST
open PySem PySem.SetTable PyProof.Rows
section
variable {prog : Program} {w : World} {A : Around} {R : Result → Shared → Prop} {I : Addr} {fp wr : List Addr} {G : Array GenState → Array GenState → Prop} {n : Nat} {P : Nat → Value → Prop} {St : Nat → Shared → Prop}
theorem TK.moved {h h' : Heap} {k : List Str} {a : Addr} (x : TK prog w h k a) (hm : ∀ o, h.get? a = some o → h'.get? a = some o) : TK prog w h' k a := by
 obtain ⟨o', items, n, ho', hc, hd', hi⟩ := x
 exact ⟨o', items, n, hm _ ho', hc, hd', hi⟩
theorem SetT.moved {h h' : Heap} {S : Addr} {ks : List (List Str)} {n : Nat} (x : SetT prog w h S ks n) (hS : ∀ o, h.get? S = some o → h'.get? S = some o) (hm : ∀ k ∈ ks, ∀ a, TK prog w h k a → TK prog w h' k a) : SetT prog w h' S ks n := by
 obtain ⟨o, es, ep, t, ho, hex, hd, hsz, T, hmk, hE⟩ := x
 exact ⟨o, es, ep, t, hS _ ho, hex, hd, hsz, T, hmk, fun e he => let ⟨k, a, h1, h2, h3⟩ := hE e he; ⟨k, a, h1, h2, hm k h1 a h3⟩⟩
end
section
variable {prog : Program} {w : World} {A : Around} {E : Value → Shared → Prop} {s : Shared}
abbrev cV (led : Bool) : Obj := { cls := .type "set", dict := none, data := .set #[] 0 (.fresh 0 0 led) }
end
end ST
namespace FD
open PySem PySem.Spec PyProof.Rows L2
def bM : List Dv → Option (List Str)
 | [] => some []
 | .str x :: r => (bM r).map (x :: ·)
 | _ => none
def keysOf : List Dv → Option (List (List Str))
 | [] => some []
 | .tup ds :: r => match bM ds, keysOf r with
  | some k, some ks => some (k :: ks)
  | _, _ => none
 | _ => none
section
variable {X : Cx} {pins : List (Addr × Obj)} {σ : L2.St} {H : Hp} {s : Shared}
theorem iw {prog : Program} {w : World} : ∀ {ds : List Dv} {k : List Str} {ys : List V} {its : List Value}, bM ds = some k → Reps X.K H ds ys → Vals ys its → PySem.ItemsAre (PySem.strKind prog w) k its
 | [], k, ys, its, h, r, v => by
  cases h
  cases (show ys = [] from r)
  cases v
  exact .nil
 | .str x :: ds, k, ys, its, h, r, v => by
  obtain ⟨y, us, rfl, r1, r2⟩ : ∃ v us, ys = v :: us ∧ Rep X.K H (.str x) v ∧ Reps X.K H ds us := r
  cases (show y = .str x from r1)
  obtain ⟨k', h1, rfl⟩ := Option.map_eq_some_iff.mp (show (bM ds).map (x :: ·) = some k from h)
  cases v with
  | cons v1 v2 =>
   obtain ⟨t, rfl⟩ := v1
   exact .cons (by show Value.isStrOf x (.str x t) = true; simp [Value.isStrOf]) (iw h1 r2 v2)
 | .non :: ds, k, ys, its, h, r, v => by cases h
 | .bl _ :: ds, k, ys, its, h, r, v => by cases h
 | .int _ :: ds, k, ys, its, h, r, v => by cases h
 | .tup _ :: ds, k, ys, its, h, r, v => by cases h
 | .lst _ :: ds, k, ys, its, h, r, v => by cases h
 | .scr _ :: ds, k, ys, its, h, r, v => by cases h
 | .exn _ :: ds, k, ys, its, h, r, v => by cases h
theorem Cq (I : Inv X pins σ H s) {ds : List Dv} {k : List Str} {v : V} {u : Value} (h : bM ds = some k) (r : Rep X.K H (.tup ds) v) (q : RelV v u) : ∃ a, u = .ref a ∧ ST.TK X.prog X.w s.heap k a := by
 obtain ⟨a, xs, rfl, hH, rs⟩ := r.tupE
 cases (show u = Value.ref a from q)
 obtain ⟨its, rv, ⟨o, e, c, n, d⟩, hz⟩ := I.tuple (SqT.of hH)
 exact ⟨a, rfl, o, its.toArray, _, e, c, d, by simpa using iw h rs rv⟩
theorem qi (I : Inv X pins σ H s) : ∀ {ds : List Dv} {ks : List (List Str)} {xs : List V} {its : List Value}, keysOf ds = some ks → Reps X.K H ds xs → Vals xs its → ks.length = its.length ∧ ∀ i, i < its.length → ∃ a, its[i]? = some (.ref a) ∧ ST.TK X.prog X.w s.heap (ks.getD i []) a
 | [], ks, xs, its, h, r, v => by
  cases h
  cases (show xs = [] from r)
  cases v
  exact ⟨rfl, fun i hi => absurd hi (Nat.not_lt_zero _)⟩
 | .tup es :: ds, ks, xs, its, h, r, v => by
  obtain ⟨y, us, rfl, r1, r2⟩ : ∃ v us, xs = v :: us ∧ Rep X.K H (.tup es) v ∧ Reps X.K H ds us := r
  unfold keysOf at h
  split at h
  · rename_i k ks' h1 h2
    cases h
    cases v with
    | cons v1 v2 =>
     obtain ⟨a, rfl, ta⟩ := Cq I h1 r1 v1
     obtain ⟨q1, q2⟩ := qi I h2 r2 v2
     refine ⟨by simp [q1], fun i hi => ?_⟩
     cases i with
     | zero => exact ⟨a, rfl, ta⟩
     | succ i =>
      obtain ⟨a', e1, e2⟩ := q2 i (by simpa using hi)
      exact ⟨a', by simpa using e1, by simpa using e2⟩
  · cases h
 | .non :: ds, ks, xs, its, h, r, v => by cases h
 | .bl _ :: ds, ks, xs, its, h, r, v => by cases h
 | .int _ :: ds, ks, xs, its, h, r, v => by cases h
 | .str _ :: ds, ks, xs, its, h, r, v => by cases h
 | .lst _ :: ds, ks, xs, its, h, r, v => by cases h
 | .scr _ :: ds, ks, xs, its, h, r, v => by cases h
 | .exn _ :: ds, ks, xs, its, h, r, v => by cases h
end
section
variable {X : Cx} {p p2 pos pos2 : Pos} {e : Expr} {ga : FnA}
end
section
variable {X : Cx}
end
def frs {α : Type} (P : α → Bool) : Sem α → Bool
 | .pure a => P a
 | .fresh _ => true
 | .at _ k => frs P (k ())
 | .rule _ k => frs P (k ())
 | .point _ k => frs P (k ())
 | _ => false
structure FE1 (X : Cx) (e : Expr) (f : FnE) : Prop where
 h : ∀ (pins : List (Addr × Obj)) (s : Shared) (σ : L2.St) (H : Hp) (Q : VK), 1 ≤ s.toks → Inv X pins σ H s → tF X f σ H Q → wpAny (model X.prog X.w) X.A (eval e X.env) (EP X pins σ Q) X.xe s
structure FT1 (X : Cx) (e : Expr) (f : FnB) : Prop where
 h : ∀ (pins : List (Addr × Obj)) (s : Shared) (σ : L2.St) (H : Hp) (Q : Bool → Hp → Prop), 1 ≤ s.toks → Inv X pins σ H s → tT X f σ H Q → wpAny (model X.prog X.w) X.A (isTrue e X.env (eval e X.env)) (TP X pins σ Q) X.xe s
structure FW1 (X : Cx) (e : Expr) (f : FnB) : Prop where
 h : ∀ (whole : Sem Value) (pins : List (Addr × Obj)) (s : Shared) (σ : L2.St) (H : Hp) (Q : Bool → Hp → Prop), 1 ≤ s.toks → Inv X pins σ H s → tT X f σ H Q → wpAny (model X.prog X.w) X.A (isTrue e X.env whole) (TP X pins σ Q) X.xe s
structure FS1 (X : Cx) (st : Stmt) (f : FnS) : Prop where
 h : ∀ (pins : List (Addr × Obj)) (s : Shared) (σ : L2.St) (H : Hp) (D : oM), 1 ≤ s.toks → Inv X pins σ H s → tS X f D σ H → wpAny (model X.prog X.w) X.A (exec st X.env) (SP X pins D) X.xe s
structure EC (X : Cx) (st : List Stmt) (f : FnS) : Prop where
 h : ∀ (pins : List (Addr × Obj)) (s : Shared) (σ : L2.St) (H : Hp) (D : oM), 1 ≤ s.toks → Inv X pins σ H s → tS X f D σ H → wpAny (model X.prog X.w) X.A (execs st X.env) (SP X pins D) X.xe s
structure FTg (X : Cx) (e : Expr) (f : FnB) : Prop where
 h : ∀ (pins : List (Addr × Obj)) (s : Shared) (σ : L2.St) (H : Hp) (Q : Bool → Hp → Prop), Inv X pins σ H s → tT X f σ H Q → wpAny (model X.prog X.w) X.A (isTrue e X.env (eval e X.env)) (fun b s' => (b = true ∨ 1 ≤ s'.toks) ∧ TP X pins σ Q b s') X.xe s
structure FWg (X : Cx) (e : Expr) (f : FnB) : Prop where
 h : ∀ (whole : Sem Value) (pins : List (Addr × Obj)) (s : Shared) (σ : L2.St) (H : Hp) (Q : Bool → Hp → Prop), Inv X pins σ H s → tT X f σ H Q → wpAny (model X.prog X.w) X.A (isTrue e X.env whole) (fun b s' => (b = true ∨ 1 ≤ s'.toks) ∧ TP X pins σ Q b s') X.xe s
def zz : Flow → Bool
 | .next => true
 | _ => false
structure FSg (X : Cx) (st : Stmt) (f : FnS) : Prop where
 h : ∀ (pins : List (Addr × Obj)) (s : Shared) (σ : L2.St) (H : Hp) (D : oM), Inv X pins σ H s → tS X f D σ H → wpAny (model X.prog X.w) X.A (exec st X.env) (fun fl s' => (zz fl = false ∨ 1 ≤ s'.toks) ∧ SP X pins D fl s') X.xe s
section
variable {X : Cx} {a b o e : Expr} {fa fo : FnE} {ga gb : FnB} {f g : FnS} {rest : List Expr} {st : Stmt} {sts as bs : List Stmt} {pos apos cpos : Pos}
theorem FWg.ft (h : FWg X e ga) : FTg X e ga := ⟨h.h _⟩
end
section
variable {prog : Program} {w : World} {A : Around} {E : Value → Shared → Prop} {s : Shared}
end
section
variable {prog : Program} {w : World} {A : Around} {E : Value → Shared → Prop} {s : Shared}
end
structure ZSt (z TI TO i1 i2 a b : Addr) (i : Nat) (h : Heap) : Prop where
 z : IsZip h z TI TO .none
 ti : IsPair h TI (.ref i1) (.ref i2)
 to : ∃ p q, IsPair h TO p q
 j1 : h.IsTupleIter i1 a i
 j2 : h.IsTupleIter i2 b i
structure ZNe (z TI TO i1 i2 : Addr) : Prop where
 n1 : TI ≠ z
 n2 : TO ≠ z
 n3 : i1 ≠ z
 n4 : i2 ≠ z
 n5 : TI ≠ TO
 n6 : TI ≠ i1
 n7 : TI ≠ i2
 n8 : TO ≠ i1
 n9 : TO ≠ i2
 n10 : i1 ≠ i2
theorem ED {z TI TO i1 i2 c : Addr} (h : c ∈ [z, TI, TO, i1, i2]) : c = z ∨ c = TI ∨ c = TO ∨ c = i1 ∨ c = i2 := by simpa using h
def tgG (X : Cx) (b : Dv → Ev → Option Ev) : TG := fun v σ H Q => ∃ d ρ ρ', Rep X.K H d v ∧ Envs X.K H σ ρ ∧ b d ρ = some ρ' ∧ ∀ σ' H', Same H H' → Envs X.K H' σ' ρ' → Q σ' H'
theorem FG.pg {X : Cx} {tg : Expr} {b : Dv → Ev → Option Ev} (h : FG X tg b) : PG X tg (tgG X b) := fun pins s σ H v u Q I r ⟨d, ρ, ρ', rd, E, e, q⟩ =>
 thn (h.h pins s σ H v u d ρ ρ' I r rd E e) fun _ s' ⟨σ', H', I', e1, E'⟩ => ⟨σ', H', I', q σ' H' e1 E'⟩
section
variable {X : Cx} {p pos : Pos} {e : Expr} {es : List Expr} {ga : FnA}
end
theorem Reps.set {K : PySem.W.Frag} {H : Hp} {d : Dv} {v : V} (rd : Rep K H d v) : ∀ {ds : List Dv} {vs : List V} (j : Nat), Reps K H ds vs → Reps K H (ds.set j d) (vs.set j v)
 | [], vs, j, r => by cases (show vs = [] from r); exact r
 | d0 :: ds, vs, 0, r => by
  obtain ⟨v0, vs', rfl, r0, rt⟩ : ∃ v us', vs = v :: us' ∧ Rep K H d0 v ∧ Reps K H ds us' := r
  exact ⟨v, vs', rfl, rd, rt⟩
 | d0 :: ds, vs, j + 1, r => by
  obtain ⟨v0, vs', rfl, r0, rt⟩ : ∃ v us', vs = v :: us' ∧ Rep K H d0 v ∧ Reps K H ds us' := r
  exact ⟨v0, vs'.set j v, rfl, r0, Reps.set rd j rt⟩
section
variable {X : Cx} {i : Nat} {e ix : Expr} {fe fi : FnE} {pos ps : Pos}
end
section
variable {X : Cx} {p pos : Pos} {e : Expr} {es : List Expr} {ga : FnA}
end
section
variable {X : Cx}
end
section
variable {X : Cx}
end
end FD
namespace ST
open PySem PySem.SetTable
abbrev Rise (xs : Array Nat) : Prop := xs.toList.Pairwise (· < ·)
theorem Rise.lt {xs : Array Nat} (R : Rise xs) {i k : Nat} (hi : i < xs.size) (hk : k < xs.size) (h : i < k) : xs[i] < xs[k] := by
 have := List.pairwise_iff_getElem.mp R i k (by simpa using hi) (by simpa using hk) h
 simpa using this
theorem Rise.le {xs : Array Nat} (R : Rise xs) {i k : Nat} (hi : i < xs.size) (hk : k < xs.size) (h : i ≤ k) : xs[i] ≤ xs[k] := by
 rcases Nat.lt_or_ge i k with h' | h'
 · exact Nat.le_of_lt (R.lt hi hk h')
 · have : i = k := by omega
   subst this
   exact Nat.le_refl _
theorem jm {xs : Array Nat} (R : Rise xs) (j : Nat) : ∀ (fuel lo hi : Nat), lo ≤ hi → hi ≤ xs.size → hi - lo ≤ fuel → (∀ i (h : i < xs.size), i < lo → xs[i] < j) → (∀ i (h : i < xs.size), hi ≤ i → j ≤ xs[i]) →
 (∀ i (h : i < xs.size), i < below.go xs j fuel lo hi → xs[i] < j) ∧ (∀ i (h : i < xs.size), below.go xs j fuel lo hi ≤ i → j ≤ xs[i])
 | 0, lo, hi, h1, h2, h3, a, b => by
  unfold below.go
  have : lo = hi := by omega
  subst this
  exact ⟨a, b⟩
 | fuel + 1, lo, hi, h1, h2, h3, a, b => by
  unfold below.go
  split
  · rename_i hlt
    have hm : (lo + hi) / 2 < xs.size := by omega
    dsimp only
    have hg : xs.getD ((lo + hi) / 2) j = xs[(lo + hi) / 2] := by simp [Array.getD, hm]
    rw [hg]
    split
    · rename_i hc
      exact jm R j fuel _ hi (by omega) h2 (by omega) (fun i h hi' => Nat.lt_of_le_of_lt (R.le h hm (by omega)) hc) b
    · rename_i hc
      exact jm R j fuel lo _ (by omega) (by omega) (by omega) a fun i h hi' => Nat.le_trans (Nat.le_of_not_lt hc) (R.le hm h hi')
  · have : lo = hi := by omega
    subst this
    exact ⟨a, b⟩
theorem iy {xs : Array Nat} (R : Rise xs) (j : Nat) : (∀ i (h : i < xs.size), i < below xs j → xs[i] < j) ∧ (∀ i (h : i < xs.size), below xs j ≤ i → j ≤ xs[i]) :=
 jm R j xs.size 0 xs.size (Nat.zero_le _) (Nat.le_refl _) (by omega) (fun i h hi => absurd hi (Nat.not_lt_zero _)) fun i h hi => absurd h (by omega)
theorem tG {xs : Array Nat} (R : Rise xs) {i j : Nat} (h : xs[i]? = some j) : below xs j = i := by
 obtain ⟨hi, e⟩ := Array.getElem?_eq_some_iff.mp h
 obtain ⟨a, b⟩ := iy R j
 rcases Nat.lt_trichotomy (below xs j) i with q | q | q
 · have h1 := b (below xs j) (by omega) (Nat.le_refl _)
   have h2 := R.lt (by omega) hi q
   omega
 · exact q
 · have h1 := a i hi q
   omega
theorem kq {t : SetTable} (R : Rise t.place) {i j : Nat} (h : t.place[i]? = some j) : t.slot j = .live i := by
 unfold SetTable.slot
 dsimp only
 rw [tG R h, h]
 simp
theorem lN {t : SetTable} {n : Nat} (T : Tb t n) (R : Rise t.place) {j : Nat} : t.slot j ≠ .empty ↔ j ∈ t.place.toList := by
 constructor
 · intro h
   rcases dl T j with q | ⟨i, _, e⟩
   · exact absurd q h
   · exact Array.mem_toList_iff.mpr (Array.mem_of_getElem? e)
 · intro h
   obtain ⟨i, hi, e⟩ := List.getElem_of_mem h
   have : t.place[i]? = some j := by
    rw [← Array.getElem?_toList, List.getElem?_eq_getElem hi, e]
   rw [kq R this]
   intro z
   cases z
def tm (m : Nat) : SetTable := { mask := m, place := #[], dummies := #[], finger := 0, led := true, moves := 0, plain := true }
theorem kr (t : SetTable) : ∀ (n : Nat) (p : Probe), advN t n p = advN (tm t.mask) n p
 | 0, p => rfl
 | n + 1, p => kr t n _
def pos (m : Nat) (h : Int) (n : Nat) : Nat := (advN (tm m) n ((tm m).probeStart h)).j
theorem mU (t : SetTable) (h : Int) (n : Nat) : (advN t n (t.probeStart h)).j = pos t.mask h n := by
 rw [kr]; rfl
def Pth (m : Nat) (l : List Nat) (h : Int) (j : Nat) : Prop := ∃ N, N < 10 * turns m ∧ pos m h N = j ∧ ∀ x, x < N → pos m h x ∈ l
theorem Pth.mono {m : Nat} {l l' : List Nat} {h : Int} {j : Nat} (p : Pth m l h j) (hs : ∀ x ∈ l, x ∈ l') : Pth m l' h j := by
 obtain ⟨N, h1, h2, h3⟩ := p
 exact ⟨N, h1, h2, fun x hx => hs _ (h3 x hx)⟩
def asc (t : SetTable) (es : Array (Int × Value)) : List (Nat × (Int × Value)) := t.place.toList.zip es.toList
def Pa (t : SetTable) (es : Array (Int × Value)) : Prop := ∀ je ∈ asc t es, Pth t.mask t.place.toList je.2.1 je.1
theorem mV {α : Type} (xs : Array α) (p : Nat) (x : α) (h : p ≤ xs.size) : (SetTable.insertAt xs p x).toList = xs.toList.take p ++ x :: xs.toList.drop p := by
 rw [SetTable.toList_insertAt]
theorem wE {α β : Type} (a : List α) (b : List β) (p : Nat) (x : α) (y : β) (hl : a.length = b.length) : (a.take p ++ x :: a.drop p).zip (b.take p ++ y :: b.drop p) = (a.zip b).take p ++ (x, y) :: (a.zip b).drop p := by
 rw [List.zip_append (by simp [hl]), List.zip_cons_cons]
 simp only [List.zip_eq_zipWith, List.take_zipWith, List.drop_zipWith]
theorem qj {α : Type} (l : List α) (p : Nat) (x y : α) : y ∈ l.take p ++ x :: l.drop p ↔ y = x ∨ y ∈ l := by
 rw [List.mem_append, List.mem_cons]
 constructor
 · rintro (h | h | h)
   · exact .inr (List.mem_of_mem_take h)
   · exact .inl h
   · exact .inr (List.mem_of_mem_drop h)
 · rintro (h | h)
   · exact .inr (.inl h)
   · rw [← List.take_append_drop p l, List.mem_append] at h
     rcases h with h | h
     · exact .inl h
     · exact .inr (.inr h)
theorem tH {t : SetTable} {n : Nat} (T : Tb t n) (R : Rise t.place) {es : Array (Int × Value)} (hs : es.size = n) {j : Nat} (hj : t.slot j = .empty) (e : Int × Value) :
 Rise (t.put j).1.place ∧ (∀ x, x ∈ (t.put j).1.place.toList ↔ x = j ∨ x ∈ t.place.toList) ∧ ∀ x, x ∈ asc (t.put j).1 (SetTable.insertAt es (t.put j).2 e) ↔ x = (j, e) ∨ x ∈ asc t es := by
 have hn : j ∉ t.place.toList := fun h => (lN T R).mpr h hj
 have hp : (t.put j).2 = below t.place j := rfl
 have hle := jl t.place j
 have e1 : (t.put j).1.place.toList = t.place.toList.take (below t.place j) ++ j :: t.place.toList.drop (below t.place j) := mV _ _ _ hle
 have e2 : (SetTable.insertAt es (t.put j).2 e).toList = es.toList.take (below t.place j) ++ e :: es.toList.drop (below t.place j) := mV _ _ _ (by rw [hp, hs, ← T.size]; exact hle)
 obtain ⟨a, b⟩ := iy R j
 refine ⟨?_, fun x => by rw [e1]; exact qj _ _ _ _, fun x => ?_⟩
 · show (t.put j).1.place.toList.Pairwise (· < ·)
   rw [e1, List.pairwise_append, List.pairwise_cons]
   have lo : ∀ x ∈ t.place.toList.take (below t.place j), x < j := by
    intro x hx
    obtain ⟨i, hi, e⟩ := List.getElem_of_mem hx
    rw [List.getElem_take] at e
    have h1 : i < below t.place j ∧ i < t.place.size := by simp only [List.length_take, Array.length_toList] at hi; omega
    have := a i h1.2 h1.1
    rw [← e]
    simpa using this
   have hi' : ∀ x ∈ t.place.toList.drop (below t.place j), j < x := by
    intro x hx
    have hm := List.mem_of_mem_drop hx
    obtain ⟨i, hi, e⟩ := List.getElem_of_mem hx
    rw [List.getElem_drop] at e
    have h1 : below t.place j + i < t.place.size := by simp only [List.length_drop, Array.length_toList] at hi; omega
    have := b _ h1 (Nat.le_add_right _ _)
    have h2 : j ≤ x := by rw [← e]; simpa using this
    have : j ≠ x := fun z => hn (z ▸ hm)
    omega
   exact ⟨R.sublist (List.take_sublist _ _), ⟨hi', R.sublist (List.drop_sublist _ _)⟩, fun x hx y hy => by
    rcases List.mem_cons.mp hy with rfl | hy
    · exact lo x hx
    · exact Nat.lt_trans (lo x hx) (hi' y hy)⟩
 · unfold asc
   rw [e1, e2, wE _ _ _ _ _ (by simp [T.size, hs])]
   exact qj _ _ _ _
theorem mW (t : SetTable) : ∀ (k : Nat) (p : Probe), k ≤ p.more → (advN t k p).j = p.j + k
 | 0, p, _ => rfl
 | k + 1, p, h => by
  show (advN t k (t.advance p)).j = _
  rw [jj t p (by omega), mW t k _ (by show k ≤ p.more - 1; omega)]
  show p.j + 1 + k = p.j + (k + 1)
  omega
theorem oq {P : Nat → Bool} : ∀ {n k : Nat}, (List.range n).find? P = some k → k < n ∧ P k = true ∧ ∀ x, x < k → P x = false := by
 intro n k h
 have h1 := List.find?_some h
 have h2 := List.mem_range.mp (List.mem_of_find?_eq_some h)
 refine ⟨h2, h1, fun x hx => ?_⟩
 rw [List.find?_eq_some_iff_append] at h
 obtain ⟨_, as, bs, e, hn⟩ := h
 have hk : as.length = k := by
  have := congrArg (fun l => l[as.length]?) e
  simp only [List.getElem?_append_right (Nat.le_refl _), Nat.sub_self, List.getElem?_cons_zero] at this
  rw [List.getElem?_eq_some_iff] at this
  obtain ⟨q, r⟩ := this
  simpa using r
 have hxm : x ∈ as := by
  have this : (List.range n)[x]? = (as ++ k :: bs)[x]? := by rw [e]
  rw [List.getElem?_append_left (by omega), List.getElem?_range (by omega)] at this
  exact List.mem_of_getElem? this.symm
 have := hn x hxm
 simpa using this
theorem kt {m : Nat} {owner : Array (Option Nat)} : ∀ (fuel : Nat) (p : Probe) (j : Nat), p.j = p.i → p.more = runEnd m p.i - p.i → layClean.free m owner fuel p.i p.perturb = some j →
 (owner.getD j (some 0)).isNone = true ∧ ∃ N, N < 10 * fuel ∧ (advN (tm m) N p).j = j ∧ ∀ x, x < N → (owner.getD (advN (tm m) x p).j (some 0)).isNone = false
 | 0, p, j, _, _, h => by unfold layClean.free at h; cases h
 | fuel + 1, p, j, hj, hm, h => by
  have hr := gw m p.i
  unfold layClean.free at h
  have hlen : runEnd m p.i + 1 - p.i = p.more + 1 := by
   rw [hm]
   have : p.i ≤ runEnd m p.i := by unfold runEnd; split <;> omega
   omega
  rw [hlen] at h
  split at h
  · rename_i k hk
    cases h
    obtain ⟨q1, q2, q3⟩ := oq hk
    refine ⟨q2, k, by omega, by rw [mW _ _ _ (by omega), hj], fun x hx => ?_⟩
    rw [mW _ _ _ (by omega), hj]
    exact q3 x hx
  · rename_i hk
    have hall : ∀ x, x ≤ p.more → (owner.getD (p.i + x) (some 0)).isNone = false := by
     intro x hx
     have := List.find?_eq_none.mp hk x (List.mem_range.mpr (by omega))
     rw [Bool.not_eq_true] at this
     exact this
    obtain ⟨r1, N, r2, r3, r4⟩ := kt fuel (iv (tm m) p) j rfl rfl h
    refine ⟨r1, p.more + 1 + N, by omega, by rw [bD, gy _ _ _ rfl]; exact r3, fun x hx => ?_⟩
    by_cases hc : x ≤ p.more
    · rw [mW _ _ _ hc, hj]
      exact hall x hc
    · obtain ⟨y, rfl⟩ : ∃ y, x = p.more + 1 + y := ⟨x - (p.more + 1), by omega⟩
      rw [bD, gy _ _ _ rfl]
      exact r4 y (by omega)
def wF (m : Nat) (owner : Array (Option Nat)) (hs : Nat → Option Int) : Prop := ∀ j x, owner[j]? = some (some x) → ∃ h, hs x = some h ∧ ∃ N, N < 10 * turns m ∧ pos m h N = j ∧ ∀ y, y < N → (owner.getD (pos m h y) (some 0)).isNone = false ∧ pos m h y ≤ m
theorem zA (m : Nat) (h : Int) : ∀ n, pos m h n ≤ m := by
 have key : ∀ (n : Nat) (p : Probe), p.i ≤ m → p.j + p.more ≤ m → (advN (tm m) n p).j ≤ m := by
  intro n
  induction n with
  | zero => intro p _ h2; show p.j ≤ m; omega
  | succ n ih =>
   intro p h1 h2
   show (advN (tm m) n ((tm m).advance p)).j ≤ m
   by_cases hc : 0 < p.more
   · rw [jj _ p hc]
     exact ih _ h1 (by show p.j + 1 + (p.more - 1) ≤ m; omega)
   · rw [ji _ p (by omega)]
     have hl : (SetTable.leap m p.i p.perturb).1 ≤ m := by
      show (p.i * 5 + 1 + p.perturb / 32) % (m + 1) ≤ m
      exact Nat.le_of_lt_succ (Nat.mod_lt _ (Nat.succ_pos m))
     refine ih _ hl ?_
     show (SetTable.leap m p.i p.perturb).1 + (runEnd m (SetTable.leap m p.i p.perturb).1 - (SetTable.leap m p.i p.perturb).1) ≤ m
     unfold runEnd
     split <;> omega
 intro n
 have hb : bits h % (m + 1) ≤ m := Nat.le_of_lt_succ (Nat.mod_lt _ (Nat.succ_pos m))
 refine key n _ hb ?_
 show bits h % (m + 1) + (runEnd m (bits h % (m + 1)) - bits h % (m + 1)) ≤ m
 unfold runEnd
 split <;> omega
theorem ku {m : Nat} {hf : Nat → Option Int} : ∀ (hs : List Int) (owner o2 : Array (Option Nat)) (k k2 : Nat), owner.size = m + 1 → (∀ i (h : i < hs.length), hf (k + i) = some hs[i]) → wF m owner hf → hs.foldl (km m) (some (owner, k)) = some (o2, k2) → wF m o2 hf
 | [], owner, o2, k, k2, _, _, hP, e => by cases e; exact hP
 | h :: hs, owner, o2, k, k2, hz, hh, hP, e => by
  rw [List.foldl_cons] at e
  have hnone : ∀ (l : List Int), l.foldl (km m) none = none := fun l => by
   induction l with
   | nil => rfl
   | cons a l ih => exact ih
  have hst : km m (some (owner, k)) h = (layClean.free m owner (turns m) (bits h % (m + 1)) (bits h)).bind (fun j => some (owner.setIfInBounds j (some k), k + 1)) := rfl
  cases hfr : layClean.free m owner (turns m) (bits h % (m + 1)) (bits h) with
  | none => rw [hst, hfr] at e; rw [show (none : Option Nat).bind (fun j => some (owner.setIfInBounds j (some k), k + 1)) = none from rfl, hnone] at e; cases e
  | some j =>
   rw [hst, hfr] at e
   obtain ⟨f1, N, f2, f3, f4⟩ := kt (m := m) (owner := owner) (turns m) ((tm m).probeStart h) j rfl rfl hfr
   obtain ⟨g1, g2⟩ := getD_none f1
   refine ku hs (owner.setIfInBounds j (some k)) o2 (k + 1) k2 (by rw [Array.size_setIfInBounds]; exact hz) (fun i hi => by
    have := hh (i + 1) (by simpa using hi)
    rw [show k + 1 + i = k + (i + 1) by omega]
    simpa using this) ?_ e
   have keep : ∀ x, (owner.getD x (some 0)).isNone = false → ((owner.setIfInBounds j (some k)).getD x (some 0)).isNone = false := by
    intro x hx
    rw [Array.getD_eq_getD_getElem?] at hx ⊢
    rw [Array.getElem?_setIfInBounds]
    split
    · first
       | rfl
       | (split <;> rfl)
    · exact hx
   intro j' x hx
   rw [Array.getElem?_setIfInBounds] at hx
   split at hx
   · rename_i hjj
     subst hjj
     have hx : (some (some k) : Option (Option Nat)) = some (some x) := by
      first
       | exact hx
       | (rw [if_pos g1] at hx; exact hx)
     cases hx
     have h0 := hh 0 (by simp)
     refine ⟨h, by simpa using h0, N, f2, f3, fun y hy => ⟨keep _ (f4 y hy), zA m h y⟩⟩
   · obtain ⟨h', a1, N', a2, a3, a4⟩ := hP j' x hx
     exact ⟨h', a1, N', a2, a3, fun y hy => ⟨keep _ (a4 y hy).1, (a4 y hy).2⟩⟩
theorem jn {m : Nat} (hs : Array Int) {o2 : Array (Option Nat)} (e : layClean m hs = some o2) : wF m o2 fun i => hs[i]? := by
 unfold layClean at e
 rw [← Array.foldl_toList] at e
 have e1 : (List.foldl (fun acc h => do
  let (owner, k) ← acc
  let j ← layClean.free m owner (turns m) (bits h % (m + 1)) (bits h)
  pure (owner.setIfInBounds j (some k), k + 1)) (some (Array.replicate (m + 1) none, 0)) hs.toList : Option (Array (Option Nat) × Nat)) = hs.toList.foldl (km m) (some (Array.replicate (m + 1) none, 0)) := rfl
 rw [e1] at e
 cases hf : hs.toList.foldl (km m) (some (Array.replicate (m + 1) none, 0)) with
 | none => rw [hf] at e; cases e
 | some q =>
  rw [hf] at e
  cases e
  exact ku hs.toList (Array.replicate (m + 1) none) q.1 0 q.2 (by simp) (fun i hi => by
   have hi' : i < hs.size := by simpa using hi
   simp [hi']) (fun j x hx => by
    rw [Array.getElem?_replicate] at hx
    split at hx <;> cases hx) hf
theorem qk {m finger moves : Nat} {led plain : Bool} (c : oo m = true) (es : Array (Int × Value)) (hl : es.size ≤ m) {t : SetTable} {order : Array Nat} (e : laid m finger moves led plain (es.map (·.1)) = some (t, order)) :
 Rise t.place ∧ (∀ je ∈ asc t (order.filterMap (fun i => es[i]?)), je.2 ∈ es.toList) ∧ Pa t (order.filterMap (fun i => es[i]?)) := by
 obtain ⟨o2, c1, c2, c3⟩ := gz c (es.map (·.1)) (by simpa using hl)
 have hp := jn (es.map (·.1)) c1
 unfold laid at e
 rw [c1] at e
 cases e
 have hlive : ∀ jk ∈ (List.range (m + 1)).filterMap fun j => (o2.getD j none).map (j, ·), o2[jk.1]? = some (some jk.2) := by
  intro jk hjk
  obtain ⟨j, hj, q⟩ := List.mem_filterMap.mp hjk
  rw [Option.map_eq_some_iff] at q
  obtain ⟨x, hx, rfl⟩ := q
  have hj' := List.mem_range.mp hj
  rw [Array.getD_eq_getD_getElem?] at hx
  cases hg : o2[j]? with
  | none => rw [hg] at hx; cases hx
  | some y => rw [hg] at hx; have : y = some x := hx; rw [← this]
 have hsome : ∀ jk ∈ (List.range (m + 1)).filterMap fun j => (o2.getD j none).map (j, ·), ∃ e, es[jk.2]? = some e := by
  intro jk hjk
  obtain ⟨h, h1, _⟩ := hp _ _ (hlive jk hjk)
  dsimp only at h1
  rw [Array.getElem?_map, Option.map_eq_some_iff] at h1
  obtain ⟨e, he, _⟩ := h1
  exact ⟨e, he⟩
 have hin : ∀ y, (o2.getD y (some 0)).isNone = false → y ≤ m → y ∈ ((List.range (m + 1)).filterMap fun j => (o2.getD j none).map (j, ·)).map (·.1) := by
  intro y hy hle
  have hlt : y < o2.size := by omega
  rw [Array.getD_eq_getD_getElem?, Array.getElem?_eq_getElem hlt] at hy
  cases hv : o2[y] with
  | none => rw [hv] at hy; simp at hy
  | some x =>
   refine List.mem_map.mpr ⟨(y, x), List.mem_filterMap.mpr ⟨y, List.mem_range.mpr (by omega), ?_⟩, rfl⟩
   rw [Array.getD_eq_getD_getElem?, Array.getElem?_eq_getElem hlt, hv]
   rfl
 generalize hL : ((List.range (m + 1)).filterMap fun j => (o2.getD j none).map (j, ·)) = L at *
 have hasc : ∀ (l : List (Nat × Nat)), (∀ jk ∈ l, ∃ e, es[jk.2]? = some e) → (l.map (·.1)).zip ((l.map (·.2)).filterMap fun i => es[i]?) = l.filterMap fun jk => (es[jk.2]?).map (jk.1, ·) := by
  intro l
  induction l with
  | nil => intro _; rfl
  | cons a l ih =>
   intro h
   obtain ⟨e, he⟩ := h a List.mem_cons_self
   simp only [List.map_cons, List.filterMap_cons, he, List.zip_cons_cons, Option.map_some]
   rw [ih fun b hb => h b (List.mem_cons_of_mem _ hb)]
 have easc : asc { mask := m, place := (L.map (·.1)).toArray, dummies := #[], finger := finger, led := led, moves := moves, plain := plain } (((L.map (·.2)).toArray).filterMap (fun i => es[i]?)) = L.filterMap fun jk => (es[jk.2]?).map (jk.1, ·) := by
  unfold asc
  rw [Array.toList_filterMap]
  exact hasc L hsome
 refine ⟨?_, fun je hje => ?_, fun je hje => ?_⟩
 · show (L.map (·.1)).toArray.toList.Pairwise (· < ·)
   rw [List.toList_toArray, ← hL, List.pairwise_map]
   refine List.Pairwise.filterMap _ (R := (· < ·)) ?_ List.pairwise_lt_range
   intro a a' hlt b hb b' hb'
   obtain ⟨x, _, rfl⟩ := Option.map_eq_some_iff.mp hb
   obtain ⟨x', _, rfl⟩ := Option.map_eq_some_iff.mp hb'
   exact hlt
 · rw [easc] at hje
   obtain ⟨jk, _, q⟩ := List.mem_filterMap.mp hje
   obtain ⟨e, he, rfl⟩ := Option.map_eq_some_iff.mp q
   exact Array.mem_toList_iff.mpr (Array.mem_of_getElem? he)
 · rw [easc] at hje
   obtain ⟨jk, hjk, q⟩ := List.mem_filterMap.mp hje
   obtain ⟨e, he, rfl⟩ := Option.map_eq_some_iff.mp q
   obtain ⟨h, h1, N, h2, h3, h4⟩ := hp _ _ (hlive jk hjk)
   dsimp only at h1
   rw [Array.getElem?_map, he] at h1
   cases h1
   refine ⟨N, h2, h3, fun x hx => ?_⟩
   show pos m e.1 x ∈ (L.map (·.1)).toArray.toList
   rw [List.toList_toArray]
   exact hin _ (h4 x hx).1 (h4 x hx).2
theorem mX (m : Nat) : ∀ (a b i : Nat), it m (a + b) i = it m b (it m a i)
 | 0, b, i => by rw [Nat.zero_add]; rfl
 | a + 1, b, i => by rw [Nat.succ_add]; exact mX m a b (stp m i)
def orb (m : Nat) : Nat → Nat → List Nat
 | 0, _ => []
 | n + 1, i => i :: orb m n (stp m i)
theorem uW (m : Nat) : ∀ (n i j : Nat), j ∈ orb m n i → ∃ k, k < n ∧ it m k i = j
 | 0, _, _, h => by simp [orb] at h
 | n + 1, i, j, h => by
  rcases List.mem_cons.mp h with rfl | h
  · exact ⟨0, by omega, rfl⟩
  · obtain ⟨k, h1, h2⟩ := uW m n _ j h
    exact ⟨k + 1, by omega, h2⟩
theorem wG : ((List.range 128).all fun j => (orb 127 128 0).contains j) = true := by decide +kernel
theorem tI : it 127 128 0 = 0 := by decide +kernel
theorem zB : oo 127 = true := by
 have hit : ∀ j, j < 128 → ∃ k, k < 128 ∧ it 127 k 0 = j := fun j hj => by
  have := List.all_eq_true.mp wG j (List.mem_range.mpr hj)
  exact uW 127 128 0 j (by simpa using this)
 unfold oo
 refine List.all_eq_true.mpr fun i hi => List.all_eq_true.mpr fun j hj => List.any_eq_true.mpr ?_
 obtain ⟨a, ha, ea⟩ := hit i (List.mem_range.mp hi)
 obtain ⟨b, hb, eb⟩ := hit j (List.mem_range.mp hj)
 by_cases hc : a ≤ b
 · refine ⟨b - a, List.mem_range.mpr (by omega), ?_⟩
   rw [← ea, ← mX, show a + (b - a) = b by omega, eb]
   simp
 · refine ⟨128 - a + b, List.mem_range.mpr (by omega), ?_⟩
   rw [← ea, ← mX, show a + (128 - a + b) = 128 + b by omega, mX, tI, eb]
   simp
theorem uX {t : SetTable} {n : Nat} (T : Tb t n) (hashAt : Nat → Int) (h : Int) : ∀ (N fuel : Nat) (p : Probe) (i0 : Nat), Vp t p → N < fuel → t.slot (advN t N p).j = .live i0 → (∀ k, k < N → t.slot (advN t k p).j ≠ .empty) →
 (∃ m i, m ≤ N ∧ t.slot (advN t m p).j = .live i ∧ t.place[i]? = some (advN t m p).j ∧ hashAt i = h ∧ probe.go t hashAt h fuel p = some (.candidate (advN t m p).j i (advN t (m + 1) p))) ∨ hashAt i0 ≠ h
 | N, 0, p, i0, v, hf, _, _ => absurd hf (Nat.not_lt_zero _)
 | N, fuel + 1, p, i0, v, hf, he, hn => by
  have hne : t.slot p.j ≠ .empty := by
   cases N with
   | zero => rw [show t.slot p.j = .live i0 from he]; intro z; cases z
   | succ N => exact hn 0 (by omega)
  rcases dl T p.j with h0 | ⟨i, h1, h2⟩
  · exact absurd h0 hne
  · by_cases hh : hashAt i = h
    · refine .inl ⟨0, i, by omega, h1, h2, hh, ?_⟩
      unfold probe.go
      rw [h1]
      dsimp only
      rw [if_pos (by simpa using hh)]
      rfl
    · have hg : probe.go t hashAt h (fuel + 1) p = probe.go t hashAt h fuel (t.advance p) := by
       conv => lhs; unfold probe.go
       rw [h1]
       dsimp only
       rw [if_neg (by simpa using hh)]
      cases N with
      | zero =>
       have : i = i0 := by
        have e : t.slot p.j = .live i0 := he
        rw [h1] at e
        cases e; rfl
       subst this
       exact .inr hh
      | succ N =>
       rcases uX T hashAt h N fuel (t.advance p) i0 v.adv (by omega) he (fun k hk => hn (k + 1) (by omega)) with ⟨m, i', q1, q2, q3, q4, q5⟩ | q
       · exact .inl ⟨m + 1, i', by omega, q2, q3, q4, by rw [hg, q5]; rfl⟩
       · exact .inr q
section
variable {prog : Program} {w : World} {A : Around} {E : Value → Shared → Prop} {s : Shared}
theorem lO {S b : Addr} {o : Obj} {es : Array (Int × Value)} {ep : Nat} {t : SetTable} {ks : List (List Str)} {k : List Str} {h : Int} {adding : Bool} {Q : SetFound → Shared → Prop} (hu : A.units < cLine)
 (ho : s.heap.get? S = some o) (hd : o.data = .set es ep t) (T : Tb t es.size) (hm : t.mask % 2 = 1) (hE : Ent prog w s.heap ks es.toList) (hx : TK prog w s.heap k b) (hk : k ∉ ks) :
 ∀ (N fuel : Nat) (st : Option Probe), (∀ p, st = some p → Vp t p) → N < fuel → t.slot (advN t N (st.getD (t.probeStart h))).j = .empty → (∀ m, m < N → t.slot (advN t m (st.getD (t.probeStart h))).j ≠ .empty) → N < 10 * turns t.mask →
  Q (.free (advN t N (st.getD (t.probeStart h))).j false) s → wpAny (model prog w) A (setSearchFrom S (.ref b) h adding fuel st) Q E s := by
 intro N
 induction N using Nat.strongRecOn with
 | _ N ih =>
  intro fuel st hv hf he hn hN hQ
  cases fuel with
  | zero => exact absurd hf (Nat.not_lt_zero _)
  | succ fuel =>
   have hfit := eX T
   have v : Vp t (st.getD (t.probeStart h)) := by
    cases st with
    | none => exact lL h
    | some p => exact hv p rfl
   unfold setSearchFrom
   refine wpAny_bind (wpAny_setState_of ho hd hfit ?_)
   dsimp only
   have hgw : t.gaveWay = false := by unfold SetTable.gaveWay; rw [hm]; rfl
   rw [hgw]
   simp only [Bool.false_eq_true, if_false]
   unfold SetTable.probe
   rcases uT T _ h N _ (st.getD (t.probeStart h)) v hN he hn with q | ⟨m, i, hmN, q1, q2, q3, q5⟩
   · rw [q]
     dsimp only
     exact wpAny_pure hQ
   · rw [q5]
     dsimp only
     have hi : i < es.size := by
      have := (Array.getElem?_eq_some_iff.mp q2).1
      rw [T.size] at this
      exact this
     obtain ⟨k', a, hk', ea, ta⟩ := hE es[i] (Array.mem_toList_iff.mpr (Array.getElem_mem hi))
     have hg : es[i]? = some (es[i].1, .ref a) := by rw [Array.getElem?_eq_getElem hi, ← ea]
     have rest : wpAny (model prog w) A (do
      let some (_, y) := es[i]? | unsupported "internal:set-entry"
      let equal ← holding [y] (eqBool y (.ref b))
      let (es', _, t') ← setState S
      if (adding && equal) = true then return SetFound.there none
      let some same := t'.sameMemory t.moves t.mask | unsupported "set.changed-during-lookup:is-the-new-block-at-the-old-address"
      let still ← match (if same then t'.slot (advN t m (st.getD (t.probeStart h))).j else .empty) with
       | .live i' => match es'[i']? with
        | some (_, y') => do pure (if ← isSame y' y then some i' else none)
        | none => pure none
       | _ => pure none
      match still with
      | none => rule "set.search.anew"; setSearchFrom S (.ref b) h adding fuel none
      | some i' => if equal then return .there (some i') else setSearchFrom S (.ref b) h adding fuel (some (advN t (m + 1) (st.getD (t.probeStart h))))) Q E s := by
      rw [hg]
      dsimp only
      refine wpAny_bind (wpAny_holding (wpAny_eqBool_tuple hu ta hx ?_))
      have hne : decide (k' = k) = false := decide_eq_false fun z => hk (z ▸ hk')
      rw [hne]
      refine wpAny_bind (wpAny_setState_of ho hd hfit ?_)
      dsimp only
      rw [Bool.and_false]
      simp only [Bool.false_eq_true, if_false]
      have hsm : t.sameMemory t.moves t.mask = some true := by unfold SetTable.sameMemory; simp
      rw [hsm]
      dsimp only
      rw [if_pos rfl, q1]
      dsimp only
      rw [hg]
      dsimp only
      have hsame : isSame (Value.ref a) (Value.ref a) = pure true := by
       unfold isSame
       dsimp only
       rw [if_pos (by simp)]
      rw [hsame]
      refine wpAny_bind (wpAny_bind (wpAny_pure (wpAny_pure ?_)))
      rw [if_pos rfl]
      refine ih (N - (m + 1)) (by omega) fuel (some (advN t (m + 1) (st.getD (t.probeStart h)))) (fun p hp => by cases hp; exact Vp.advN (m + 1) v) (by omega) ?_ ?_ (by omega) (by
       show Q (.free (advN t (N - (m + 1)) (advN t (m + 1) (st.getD (t.probeStart h)))).j false) s
       rw [← bD, show m + 1 + (N - (m + 1)) = N by omega]
       exact hQ)
      · show t.slot (advN t (N - (m + 1)) (advN t (m + 1) (st.getD (t.probeStart h)))).j = .empty
        rw [← bD, show m + 1 + (N - (m + 1)) = N by omega]
        exact he
      · intro x hx'
        show t.slot (advN t x (advN t (m + 1) (st.getD (t.probeStart h)))).j ≠ .empty
        rw [← bD]
        exact hn _ (by omega)
     by_cases hled : t.led = true
     · rw [hled]
       simp only [Bool.not_true, Bool.false_eq_true, if_false]
       exact rest
     · have hled' : t.led = false := by simpa using hled
       rw [hled']
       simp only [Bool.not_false, if_true]
       refine wpAny_bind (uV hx (fun v hv => ?_) ?_)
       · obtain ⟨e, he', rfl⟩ := List.mem_map.mp hv
         have hem : e ∈ es.toList := by
          have := Array.mem_toList_iff.mp he'
          rw [Array.mem_filter] at this
          exact Array.mem_toList_iff.mpr this.1
         obtain ⟨k2, a2, _, e2, t2⟩ := hE e hem
         exact ⟨k2, a2, e2, t2⟩
       · simp only [Bool.false_eq_true, if_false]
         exact rest
theorem ot {S b a0 : Addr} {i0 : Nat} {o : Obj} {es : Array (Int × Value)} {ep : Nat} {t : SetTable} {ks : List (List Str)} {k : List Str} {Q : SetFound → Shared → Prop} (hu : A.units < cLine)
 (ho : s.heap.get? S = some o) (hd : o.data = .set es ep t) (T : Tb t es.size) (hm : t.mask % 2 = 1) (hE : Ent prog w s.heap ks es.toList) (hx : TK prog w s.heap k b) (hi0 : es[i0]? = some (hsh prog w k, .ref a0)) (h0 : TK prog w s.heap k a0) :
 ∀ (N fuel : Nat) (st : Option Probe), (∀ p, st = some p → Vp t p) → N < fuel → t.slot (advN t N (st.getD (t.probeStart (hsh prog w k)))).j = .live i0 → (∀ m, m < N → t.slot (advN t m (st.getD (t.probeStart (hsh prog w k)))).j ≠ .empty) → N < 10 * turns t.mask →
  Q (.there none) s → wpAny (model prog w) A (setSearchFrom S (.ref b) (hsh prog w k) true fuel st) Q E s := by
 intro N
 induction N using Nat.strongRecOn with
 | _ N ih =>
  intro fuel st hv hf he hn hN hQ
  cases fuel with
  | zero => exact absurd hf (Nat.not_lt_zero _)
  | succ fuel =>
   have hfit := eX T
   have v : Vp t (st.getD (t.probeStart (hsh prog w k))) := by
    cases st with
    | none => exact lL (hsh prog w k)
    | some p => exact hv p rfl
   unfold setSearchFrom
   refine wpAny_bind (wpAny_setState_of ho hd hfit ?_)
   dsimp only
   have hgw : t.gaveWay = false := by unfold SetTable.gaveWay; rw [hm]; rfl
   rw [hgw]
   simp only [Bool.false_eq_true, if_false]
   unfold SetTable.probe
   rcases uX T _ (hsh prog w k) N _ (st.getD (t.probeStart (hsh prog w k))) i0 v hN he hn with ⟨m, i, hmN, q1, q2, q3, q5⟩ | q
   · rw [q5]
     dsimp only
     have hi : i < es.size := by
      have := (Array.getElem?_eq_some_iff.mp q2).1
      rw [T.size] at this
      exact this
     obtain ⟨k', a, hc, hg, ta⟩ : ∃ k' a, (k' = k ∨ m < N) ∧ es[i]? = some (es[i].1, .ref a) ∧ TK prog w s.heap k' a := by
      by_cases hii : i = i0
      · subst hii
        refine ⟨k, a0, .inl rfl, ?_, h0⟩
        rw [hi0]
        rw [Array.getElem?_eq_getElem hi] at hi0
        rw [Option.some.inj hi0]
      · obtain ⟨k', a, _, ea, ta⟩ := hE es[i] (Array.mem_toList_iff.mpr (Array.getElem_mem hi))
        refine ⟨k', a, .inr ?_, by rw [Array.getElem?_eq_getElem hi, ← ea], ta⟩
        rcases Nat.lt_or_ge m N with z | z
        · exact z
        · have : m = N := by omega
          subst this
          rw [q1] at he
          cases he
          exact absurd rfl hii
     have rest : wpAny (model prog w) A (do
      let some (_, y) := es[i]? | unsupported "internal:set-entry"
      let equal ← holding [y] (eqBool y (.ref b))
      let (es', _, t') ← setState S
      if (true && equal) = true then return SetFound.there none
      let some same := t'.sameMemory t.moves t.mask | unsupported "set.changed-during-lookup:is-the-new-block-at-the-old-address"
      let still ← match (if same then t'.slot (advN t m (st.getD (t.probeStart (hsh prog w k)))).j else .empty) with
       | .live i' => match es'[i']? with
        | some (_, y') => do pure (if ← isSame y' y then some i' else none)
        | none => pure none
       | _ => pure none
      match still with
      | none => rule "set.search.anew"; setSearchFrom S (.ref b) (hsh prog w k) true fuel none
      | some i' => if equal then return .there (some i') else setSearchFrom S (.ref b) (hsh prog w k) true fuel (some (advN t (m + 1) (st.getD (t.probeStart (hsh prog w k)))))) Q E s := by
      rw [hg]
      dsimp only
      refine wpAny_bind (wpAny_holding (wpAny_eqBool_tuple hu ta hx ?_))
      by_cases hkk : k' = k
      · rw [decide_eq_true hkk]
        refine wpAny_bind (wpAny_setState_of ho hd hfit ?_)
        dsimp only
        rw [Bool.and_true]
        simp only [if_true]
        exact wpAny_pure hQ
      have hmN' : m < N := by
       rcases hc with z | z
       · exact absurd z hkk
       · exact z
      rw [decide_eq_false hkk]
      refine wpAny_bind (wpAny_setState_of ho hd hfit ?_)
      dsimp only
      rw [Bool.and_false]
      simp only [Bool.false_eq_true, if_false]
      have hsm : t.sameMemory t.moves t.mask = some true := by unfold SetTable.sameMemory; simp
      rw [hsm]
      dsimp only
      rw [if_pos rfl, q1]
      dsimp only
      rw [hg]
      dsimp only
      have hsame : isSame (Value.ref a) (Value.ref a) = pure true := by
       unfold isSame
       dsimp only
       rw [if_pos (by simp)]
      rw [hsame]
      refine wpAny_bind (wpAny_bind (wpAny_pure (wpAny_pure ?_)))
      rw [if_pos rfl]
      refine ih (N - (m + 1)) (by omega) fuel (some (advN t (m + 1) (st.getD (t.probeStart (hsh prog w k))))) (fun p hp => by cases hp; exact Vp.advN (m + 1) v) (by omega) ?_ ?_ (by omega) hQ
      · show t.slot (advN t (N - (m + 1)) (advN t (m + 1) (st.getD (t.probeStart (hsh prog w k))))).j = .live i0
        rw [← bD, show m + 1 + (N - (m + 1)) = N by omega]
        exact he
      · intro x hx'
        show t.slot (advN t x (advN t (m + 1) (st.getD (t.probeStart (hsh prog w k))))).j ≠ .empty
        rw [← bD]
        exact hn _ (by omega)
     by_cases hled : t.led = true
     · rw [hled]
       simp only [Bool.not_true, Bool.false_eq_true, if_false]
       exact rest
     · have hled' : t.led = false := by simpa using hled
       rw [hled']
       simp only [Bool.not_false, if_true]
       refine wpAny_bind (uV hx (fun v hv => ?_) ?_)
       · obtain ⟨e, he', rfl⟩ := List.mem_map.mp hv
         have hem : e ∈ es.toList := by
          have := Array.mem_toList_iff.mp he'
          rw [Array.mem_filter] at this
          exact Array.mem_toList_iff.mpr this.1
         obtain ⟨k2, a2, _, e2, t2⟩ := hE e hem
         exact ⟨k2, a2, e2, t2⟩
       · simp only [Bool.false_eq_true, if_false]
         exact rest
   · exact absurd (show (es[i0]?.map (·.1)).getD 0 = hsh prog w k by rw [hi0]; rfl) q
def SetD (prog : Program) (w : World) (h : Heap) (S : Addr) (ks : List (List Str)) (n : Nat) : Prop :=
 ∃ o es ep t, h.get? S = some o ∧ o.ExactSet ∧ o.data = .set es ep t ∧ es.size = n ∧ Tb t n ∧ ((t.mask = 7 ∧ n ≤ 4) ∨ (t.mask = 31 ∧ n ≤ 18) ∨ (t.mask = 127 ∧ n ≤ 20)) ∧ Ent prog w h ks es.toList ∧ Rise t.place ∧ Pa t es ∧ ∀ k ∈ ks, ∃ a, (hsh prog w k, Value.ref a) ∈ es.toList ∧ TK prog w h k a
theorem wH {S b : Addr} {ks : List (List Str)} {n : Nat} {k : List Str} {Q : Bool → Shared → Prop} (hu : A.units < cLine) (hS : SetD prog w s.heap S ks n) (hx : TK prog w s.heap k b) (hk : k ∈ ks)
 (h : Q false s) : wpAny (model prog w) A (setAddHashed S (.ref b) (hsh prog w k)) Q E s := by
 obtain ⟨o, es, ep, t, ho, hex, hd, hsz, T, hm, hE, R, hP, hA⟩ := hS
 have hfit := eX T
 have hfit' : t.fits es.size = true := by rw [hsz]; exact hfit
 have hodd : t.mask % 2 = 1 := by rcases hm with ⟨e, _⟩ | ⟨e, _⟩ | ⟨e, _⟩ <;> rw [e]
 obtain ⟨a0, hmem, h0⟩ := hA k hk
 obtain ⟨i0, hi0, e0⟩ := List.getElem_of_mem hmem
 have hi1 : i0 < es.size := by simpa using hi0
 have hge : es[i0]? = some (hsh prog w k, Value.ref a0) := by
  rw [← Array.getElem?_toList, List.getElem?_eq_getElem hi0, e0]
 have hpl : i0 < t.place.size := by rw [T.size, ← hsz]; exact hi1
 have hma : (t.place[i0], (hsh prog w k, Value.ref a0)) ∈ asc t es := by
  unfold asc
  refine List.mem_of_getElem? (i := i0) ?_
  rw [List.getElem?_zip_eq_some]
  exact ⟨by simp [hpl], by rw [Array.getElem?_toList]; exact hge⟩
 obtain ⟨N, h1, h2, h3⟩ := hP _ hma
 have hmk : t.mask ≤ 127 := by rcases hm with ⟨e, _⟩ | ⟨e, _⟩ | ⟨e, _⟩ <;> omega
 unfold setAddHashed setAddHashedIn
 refine wpAny_holding (wpAny_bind (wpAny_setState_of ho hd hfit' ?_))
 dsimp only
 have hbs : byScan (Value.ref b) es = false := by unfold byScan; rfl
 rw [hbs]
 simp only [Bool.false_eq_true, if_false]
 unfold setSearch
 refine wpAny_bind (ot (ks := ks) (a0 := a0) (i0 := i0) hu ho hd (by rw [hsz]; exact T) hodd hE hx hge h0 N 100000 none (fun p hp => by cases hp) (by unfold turns at h1; omega) ?_ ?_ h1 ?_)
 · show t.slot (advN t N (t.probeStart (hsh prog w k))).j = .live i0
   rw [mU, h2]
   exact kq R (by rw [Array.getElem?_eq_getElem hpl])
 · intro m hmN
   show t.slot (advN t m (t.probeStart (hsh prog w k))).j ≠ .empty
   rw [mU]
   exact (lN T R).mpr (h3 m hmN)
 · exact wpAny_pure h
theorem gA {n : Nat} (h : n ≤ 20) : n ≤ sizeLine := by rw [sizeLine_eq]; omega
theorem wI {S b : Addr} {ks : List (List Str)} {n : Nat} {k : List Str} {Q : Bool → Shared → Prop} (hu : A.units < cLine) (hS : SetD prog w s.heap S ks n) (hx : TK prog w s.heap k b) (hk : k ∉ ks) (hn : n + 1 ≤ 20)
 (h : ∀ h', Heap.SameBut S s.heap h' → SetD prog w h' S (k :: ks) (n + 1) → Q true { s with heap := h' }) : wpAny (model prog w) A (setAddHashed S (.ref b) (hsh prog w k)) Q E s := by
 obtain ⟨o, es, ep, t, ho, hex, hd, hsz, T, hm, hE, R, hP, hA⟩ := hS
 have hfit := eX T
 have hfit' : t.fits es.size = true := by rw [hsz]; exact hfit
 have hodd : t.mask % 2 = 1 := by rcases hm with ⟨e, _⟩ | ⟨e, _⟩ | ⟨e, _⟩ <;> rw [e]
 have hroom : n + 1 ≤ t.mask := by rcases hm with ⟨e, q⟩ | ⟨e, q⟩ | ⟨e, q⟩ <;> omega
 unfold setAddHashed setAddHashedIn
 refine wpAny_holding (wpAny_bind (wpAny_setState_of ho hd hfit' ?_))
 dsimp only
 have hbs : byScan (Value.ref b) es = false := by unfold byScan; rfl
 rw [hbs]
 simp only [Bool.false_eq_true, if_false]
 unfold setSearch
 obtain ⟨N, h1, h2, h3⟩ := zx T (lL (t := t) (hsh prog w k))
 have hmk : t.mask ≤ 127 := by rcases hm with ⟨e, _⟩ | ⟨e, _⟩ | ⟨e, _⟩ <;> omega
 refine wpAny_bind (lO (ks := ks) hu ho hd (by rw [hsz]; exact T) hodd hE hx hk N 100000 none (fun p hp => by cases hp) (by unfold turns at h1; omega) h2 h3 h1 ?_)
 dsimp only
 refine wpAny_bind (wpAny_setState_of ho hd hfit' ?_)
 dsimp only
 generalize hjj : (advN t N ((none : Option Probe).getD (t.probeStart (hsh prog w k)))).j = j
 have hje : t.slot j = .empty := by rw [← hjj]; exact h2
 have hjp : pos t.mask (hsh prog w k) N = j := by rw [← mU]; exact hjj
 obtain ⟨R2, hpl2, hasc2⟩ := tH T R hsz hje (hsh prog w k, Value.ref b)
 have hway : Pth t.mask (t.put j).1.place.toList (hsh prog w k) j := ⟨N, h1, hjp, fun x hx => by
  rw [hpl2]
  refine .inr ((lN T R).mp ?_)
  rw [← mU]
  exact h3 x hx⟩
 have hP2 : Pa (t.put j).1 (SetTable.insertAt es (t.put j).2 (hsh prog w k, Value.ref b)) := fun je hje' => by
  rcases (hasc2 je).mp hje' with rfl | hq
  · exact hway
  · exact (hP je hq).mono fun x hx => (hpl2 x).mpr (.inr hx)
 have hA2 : ∀ k' ∈ k :: ks, ∃ a, (hsh prog w k', Value.ref a) ∈ (SetTable.insertAt es (t.put j).2 (hsh prog w k, Value.ref b)).toList ∧ TK prog w s.heap k' a := by
  intro k' hk'
  have hmm : ∀ e, e ∈ (SetTable.insertAt es (t.put j).2 (hsh prog w k, Value.ref b)).toList ↔ e ∈ (es.push (hsh prog w k, Value.ref b)).toList := fun e => (SetTable.insertAt_perm es (t.put j).2 (hsh prog w k, Value.ref b)).mem_iff
  rcases List.mem_cons.mp hk' with rfl | hk'
  · exact ⟨b, (hmm _).mpr (by rw [Array.toList_push]; simp), hx⟩
  · obtain ⟨a, q1, q2⟩ := hA k' hk'
    exact ⟨a, (hmm _).mpr (by rw [Array.toList_push]; exact List.mem_append_left _ q1), q2⟩
 obtain ⟨P1, P2, P3, P4, P5⟩ := zy T hroom j
 have go : ∀ bv : Bool, wpAny (model prog w) A (do
  storeSet S (SetTable.insertAt es (t.put j).2 (hsh prog w k, .ref b)) (if bv then (t.put j).1 else { (t.put j).1 with plain := false })
  if (!false && (if bv then (t.put j).1 else { (t.put j).1 with plain := false }).tooFull) = true then setRelay S (SetTable.grown (es.size + 1))
  return true) Q E s := by
  intro bv
  have T2 : ∃ t2, (if bv then (t.put j).1 else { (t.put j).1 with plain := false }) = t2 ∧ Tb t2 (n + 1) ∧ t2.mask = t.mask ∧ Rise t2.place ∧ Pa t2 (SetTable.insertAt es (t.put j).2 (hsh prog w k, Value.ref b)) := by
   cases bv with
   | true => exact ⟨_, rfl, P1, P3, R2, hP2⟩
   | false => exact ⟨_, rfl, ⟨P1.size, P1.dm, P1.cyc, P1.room⟩, P3, R2, hP2⟩
  obtain ⟨t2, e2, T2, M2, R2', hP2'⟩ := T2
  rw [e2]
  have hsz2 : (SetTable.insertAt es (t.put j).2 (hsh prog w k, Value.ref b)).size = n + 1 := by
   rw [eA _ _ _ (by rw [hsz]; exact P2), hsz]
  refine wpAny_bind (wpAny_storeSet_of ho hd ?_ (by rw [hsz2]; exact gA hn))
  have hsb := Heap.SameBut.update s.heap S (Obj.putSet (SetTable.insertAt es (t.put j).2 (hsh prog w k, Value.ref b)) t2)
  have hg := ko (es' := SetTable.insertAt es (t.put j).2 (hsh prog w k, Value.ref b)) (t' := t2) ho hd
  have hE2 : Ent prog w (s.heap.update S (Obj.putSet (SetTable.insertAt es (t.put j).2 (hsh prog w k, Value.ref b)) t2)) (k :: ks) (SetTable.insertAt es (t.put j).2 (hsh prog w k, Value.ref b)).toList := (hE.insert hx).keeps ho hd hsb
  by_cases hf : t2.tooFull = true
  · rw [hf]
    simp only [Bool.not_false, Bool.and_self, if_true]
    have hfl : t2.fill * 5 ≥ t2.mask * 3 := by unfold SetTable.tooFull at hf; simpa using hf
    rw [qh T2, M2] at hfl
    have h5 : ∃ m', sizeAbove (SetTable.grown (n + 1)) - 1 = m' ∧ oo m' = true ∧ n + 1 ≤ m' ∧ ¬ (sizeAbove (SetTable.grown (n + 1)) > sizeLine) ∧ ((m' = 31 ∧ n + 1 ≤ 18) ∨ (m' = 127 ∧ n + 1 ≤ 20)) := by
     rcases hm with ⟨e, q⟩ | ⟨e, q⟩ | ⟨e, q⟩
     · rw [e] at hfl
       have h4 : n = 4 := by omega
       subst h4
       exact ⟨31, by decide, Co, by omega, by rw [sizeLine_eq]; decide, .inl ⟨rfl, by omega⟩⟩
     · rw [e] at hfl
       have h4 : n = 18 := by omega
       subst h4
       exact ⟨127, by decide, zB, by omega, by rw [sizeLine_eq]; decide, .inr ⟨rfl, by omega⟩⟩
     · rw [e] at hfl
       omega
    obtain ⟨m', s1, s2, s3, s4, s5⟩ := h5
    unfold setRelay
    refine wpAny_bind (wpAny_bind (wpAny_setState_of hg rfl (by rw [hsz2]; exact eX T2) ?_))
    dsimp only
    rw [hsz]
    rw [if_neg s4]
    have hrl : t2.relaid ((SetTable.insertAt es (t.put j).2 (hsh prog w k, Value.ref b)).map (·.1)) (SetTable.grown (n + 1)) = laid m' t2.finger (t2.movedTo m') t2.led t2.plain ((SetTable.insertAt es (t.put j).2 (hsh prog w k, Value.ref b)).map (·.1)) := by
     unfold SetTable.relaid
     rw [s1]
    obtain ⟨t3, order, r1, r2, r3, r4, r5, r6, r7⟩ := wD (finger := t2.finger) (moves := t2.movedTo m') (led := t2.led) (plain := t2.plain) s2 ((SetTable.insertAt es (t.put j).2 (hsh prog w k, Value.ref b)).map (·.1)) (by rw [Array.size_map, hsz2]; omega)
    rw [hrl, r1]
    obtain ⟨L1, L2, L3⟩ := qk s2 (SetTable.insertAt es (t.put j).2 (hsh prog w k, Value.ref b)) (by rw [hsz2]; omega) r1
    rw [Array.size_map, hsz2] at r6 r7
    have hperm : (order.filterMap (fun i => (SetTable.insertAt es (t.put j).2 (hsh prog w k, Value.ref b))[i]?)).toList.Perm (SetTable.insertAt es (t.put j).2 (hsh prog w k, Value.ref b)).toList := by
     rw [Array.toList_filterMap]
     refine (r7.filterMap _).trans ?_
     rw [← hsz2, tE]
    have hsz3 : (order.filterMap (fun i => (SetTable.insertAt es (t.put j).2 (hsh prog w k, Value.ref b))[i]?)).size = n + 1 := by
     rw [← Array.length_toList, hperm.length_eq, Array.length_toList, hsz2]
    show wpAny (model prog w) A ((if ((order.filterMap (fun i => (SetTable.insertAt es (t.put j).2 (hsh prog w k, Value.ref b))[i]?)).size != (SetTable.insertAt es (t.put j).2 (hsh prog w k, Value.ref b)).size) = true then (unsupported "internal:set-table-lost-an-element" : Sem _) else pure (order.filterMap (fun i => (SetTable.insertAt es (t.put j).2 (hsh prog w k, Value.ref b))[i]?), t3)) >>= fun x => storeSet S x.1 x.2) _ _ _
    rw [if_neg (by rw [hsz3, hsz2]; simp)]
    refine wpAny_bind (wpAny_pure ?_)
    refine wpAny_storeSet_of hg rfl ?_ (by rw [hsz3]; exact gA hn)
    have hsb2 := Heap.SameBut.update (s.heap.update S (Obj.putSet (SetTable.insertAt es (t.put j).2 (hsh prog w k, Value.ref b)) t2)) S (Obj.putSet (order.filterMap (fun i => (SetTable.insertAt es (t.put j).2 (hsh prog w k, Value.ref b))[i]?)) t3)
    refine wpAny_pure (h _ (hsb.trans hsb2) ⟨_, _, _, t3, ko hg rfl, hex, rfl, hsz3, r6, (by rw [r2]; exact .inr s5), ?_, L1, L3, fun k' hk' => ?_⟩)
    · have hE3 := hE2.keeps hg rfl hsb2
      exact fun e he => hE3 e (hperm.mem_iff.mp he)
    · obtain ⟨a, q1, q2⟩ := hA2 k' hk'
      exact ⟨a, hperm.mem_iff.mpr q1, (q2.keeps ho hd hsb).keeps hg rfl hsb2⟩
  · have hf' : t2.tooFull = false := by simpa using hf
    rw [hf']
    simp only [Bool.not_false, Bool.and_false, Bool.false_eq_true, if_false]
    have hfl : ¬ (t2.fill * 5 ≥ t2.mask * 3) := by unfold SetTable.tooFull at hf'; simpa using hf'
    rw [qh T2, M2] at hfl
    refine wpAny_pure (h _ hsb ⟨_, _, _, t2, hg, hex, rfl, hsz2, T2, ?_, hE2, R2', hP2', fun k' hk' => let ⟨a, q1, q2⟩ := hA2 k' hk'; ⟨a, q1, q2.keeps ho hd hsb⟩⟩)
    rw [M2]
    rcases hm with ⟨e, q⟩ | ⟨e, q⟩ | ⟨e, q⟩
    · exact .inl ⟨e, by omega⟩
    · exact .inr (.inl ⟨e, by omega⟩)
    · exact .inr (.inr ⟨e, hn⟩)
 cases hpl : (t.put j).1.plain with
 | true =>
  simp only [if_true]
  refine wpAny_bind (lM hx fun bv => ?_)
  exact go bv
 | false =>
  simp only [Bool.false_eq_true, if_false]
  refine wpAny_bind (wpAny_pure ?_)
  exact go true
end
end ST
namespace ST
open PySem PySem.SetTable PyProof.Rows
def addK {α : Type} [DecidableEq α] (acc : List α) (k : α) : List α := if k ∈ acc then acc else k :: acc
def ddk {α : Type} [DecidableEq α] (ks : List α) : List α := ks.foldl addK []
theorem tJ {α : Type} [DecidableEq α] (acc : List α) (k : α) : (addK acc k).length ≤ acc.length + 1 := by unfold addK; split <;> simp
theorem cK {α : Type} [DecidableEq α] : ∀ (ks acc : List α), (ks.foldl addK acc).length ≤ acc.length + ks.length
 | [], acc => Nat.le_refl _
 | k :: ks, acc => by
  have h1 := cK ks (addK acc k)
  have h2 := tJ acc k
  rw [List.foldl_cons, List.length_cons]
  omega
theorem ddk_le {α : Type} [DecidableEq α] (ks : List α) : (ddk ks).length ≤ ks.length := by
 have := cK ks []
 unfold ddk
 simpa using this
theorem fJ {α : Type} [DecidableEq α] : ∀ (ks acc : List α), (ks.foldl addK acc).length = acc.length + ks.length ↔ (ks.Nodup ∧ ∀ k ∈ ks, k ∉ acc)
 | [], acc => by simp
 | k :: ks, acc => by
  rw [List.foldl_cons, List.length_cons]
  by_cases h : k ∈ acc
  · have h1 := cK ks acc
    have e : addK acc k = acc := by unfold addK; rw [if_pos h]
    rw [e]
    constructor
    · intro q; omega
    · intro q; exact absurd h (q.2 k List.mem_cons_self)
  · have e : addK acc k = k :: acc := by unfold addK; rw [if_neg h]
    have ih := fJ ks (k :: acc)
    rw [e]
    rw [List.length_cons] at ih
    rw [show acc.length + (ks.length + 1) = acc.length + 1 + ks.length by omega, ih, List.nodup_cons]
    constructor
    · rintro ⟨h1, h2⟩
      refine ⟨⟨fun hm => h2 k hm List.mem_cons_self, h1⟩, fun x hx => ?_⟩
      rcases List.mem_cons.mp hx with rfl | hx
      · exact h
      · exact fun z => h2 x hx (List.mem_cons_of_mem _ z)
    · rintro ⟨⟨h1, h2⟩, h3⟩
      refine ⟨h2, fun x hx z => ?_⟩
      rcases List.mem_cons.mp z with rfl | z
      · exact h1 hx
      · exact h3 x (List.mem_cons_of_mem _ hx) z
theorem ddk_eq {α : Type} [DecidableEq α] (ks : List α) : (ddk ks).length = ks.length ↔ ks.Nodup := by
 have := fJ ks []
 unfold ddk
 simpa using this
section
variable {prog : Program} {w : World} {A : Around} {R : Result → Shared → Prop} {I : Addr} {fp wr : List Addr} {G : Array GenState → Array GenState → Prop} {n : Nat} {P : Nat → Value → Prop} {St : Nat → Shared → Prop}
theorem SetD.moved {h h' : Heap} {S : Addr} {ks : List (List Str)} {n : Nat} (x : SetD prog w h S ks n) (hS : ∀ o, h.get? S = some o → h'.get? S = some o) (hm : ∀ k a, TK prog w h k a → TK prog w h' k a) : SetD prog w h' S ks n := by
 obtain ⟨o, es, ep, t, ho, hex, hd, hsz, T, hmk, hE, R, hP, hA⟩ := x
 exact ⟨o, es, ep, t, hS _ ho, hex, hd, hsz, T, hmk, fun e he => let ⟨k, a, h1, h2, h3⟩ := hE e he; ⟨k, a, h1, h2, hm k a h3⟩, R, hP, fun k hk => let ⟨a, q1, q2⟩ := hA k hk; ⟨a, q1, hm k a q2⟩⟩
theorem Cr (W : WalksS prog w A.in1 I fp wr G n P St) (S : Addr) (hSf : S ∉ fp) (hu : A.in1.units < cLine) (hwr : wr = [I]) (hI : ∀ i s, St i s → ∃ o vs, s.heap.get? I = some o ∧ o.data = .fields vs)
 (adr : Nat → Addr) (key : Nat → List Str) (hval : ∀ i v, P i v → v = .ref (adr i)) (hn : n ≤ 20) :
 ∀ (k i : Nat) (s : Shared), n - i = k → i ≤ n → St i s → (∀ j, j < n → TK prog w s.heap (key j) (adr j)) →
  SetD prog w s.heap S (ddk ((List.range i).map key)) (ddk ((List.range i).map key)).length →
  (∀ s', Moved (S :: wr) G s s' → SetD prog w s'.heap S (ddk ((List.range n).map key)) (ddk ((List.range n).map key)).length → R (.ok (.ret .none)) s') →
  codeAny (model prog w) A (.builtin "set.update.loop" ⟨[.ref S, .ref I], []⟩) R s := by
 have hSw : S ∉ wr := fun h => hSf (W.sub _ h)
 have hsub : ∀ b ∈ wr, b ∈ S :: wr := fun b hb => List.mem_cons_of_mem _ hb
 have notI : ∀ {i : Nat} {s : Shared} {k : List Str} {a : Addr}, St i s → TK prog w s.heap k a → a ∉ wr := fun {i s k a} hst x hm => by
  rw [hwr, List.mem_singleton] at hm
  subst hm
  obtain ⟨o', items, n, ho', hc, hd', hi⟩ := x
  obtain ⟨o, vs, ho, hd⟩ := hI _ _ hst
  rw [ho] at ho'
  cases ho'
  rw [hd] at hd'
  cases hd'
 intro k
 induction k with
 | zero =>
  intro i s hk hi hst hT hS hR
  have hin : i = n := by omega
  subst hin
  refine codeAny_builtin F.entry_set_update_loop ?_
  rw [Around.under_plainId F.plain_set_update_loop _]
  show wpAny _ A.in1 (pyNext (.ref I) >>= _) _ _ s
  refine wpAny_bind (W.done s _ _ hst fun s' hm => ?_)
  show wpAny _ A.in1 (ret Value.none) _ _ s'
  exact wpAny_pure (hR s' (hm.mono hsub) (hS.moved (fun o ho => hm.heap S _ hSw ho) fun k' a x => x.moved fun o ho => hm.heap a _ (notI hst x) ho))
 | succ k ih =>
  intro i s hk hi hst hT hS hR
  have hlt : i < n := by omega
  refine codeAny_builtin F.entry_set_update_loop ?_
  rw [Around.under_plainId F.plain_set_update_loop _]
  show wpAny _ A.in1 (pyNext (.ref I) >>= _) _ _ s
  refine wpAny_bind (W.item i s _ _ hlt hst fun v s' hP hst' hm => ?_)
  have hv := hval i v hP
  subst hv
  have hT' : ∀ j, j < n → TK prog w s'.heap (key j) (adr j) := fun j hj => (hT j hj).moved fun o ho => hm.heap _ _ (notI hst (hT j hj)) ho
  have hS' : SetD prog w s'.heap S (ddk ((List.range i).map key)) (ddk ((List.range i).map key)).length := hS.moved (fun o ho => hm.heap S _ hSw ho) fun k' a x => x.moved fun o ho => hm.heap a _ (notI hst x) ho
  show wpAny _ A.in1 (holding [Value.ref (adr i)] (setAdd S (.ref (adr i))) >>= _) _ _ s'
  refine wpAny_bind (wpAny_holding ?_)
  unfold setAdd
  refine wpAny_holding ?_
  refine wpAny_bind (wpAny_pyHash_tuple hu (hT' i hlt) ?_)
  have estep : ddk ((List.range (i + 1)).map key) = addK (ddk ((List.range i).map key)) (key i) := by
   unfold ddk
   rw [List.range_succ, List.map_append, List.foldl_append]
   rfl
  have hle : (ddk ((List.range i).map key)).length ≤ i := by
   have := ddk_le ((List.range i).map key)
   simpa using this
  by_cases hold : key i ∈ ddk ((List.range i).map key)
  · refine wH (s := { s' with toks := s'.toks + ((key i).length + 1) }) hu hS' (hT' i hlt) hold ?_
    have hS3 : SetD prog w s'.heap S (ddk ((List.range (i + 1)).map key)) (ddk ((List.range (i + 1)).map key)).length := by
     rw [estep]
     unfold addK
     rw [if_pos hold]
     exact hS'
    refine wpAny_pure ⟨plainId_quiet F.plain_set_update_loop _, ih (i + 1) _ (by omega) hlt (W.frame _ s' _ _ hst' (by simp) fun b hb o e => e) hT' hS3 fun s'' hm'' hS'' => ?_⟩
    exact hR s'' (Moved.trans W.gtrans ((hm.mono hsub).then_heap (by simp) fun b o hb e => e) hm'') hS''
  · refine wI (s := { s' with toks := s'.toks + ((key i).length + 1) }) hu hS' (hT' i hlt) hold (by omega) fun h' hsb hS2 => ?_
    obtain ⟨oS, esS, epS, tS, hoS, _, hdS, _⟩ := hS'
    have hS3 : SetD prog w h' S (ddk ((List.range (i + 1)).map key)) (ddk ((List.range (i + 1)).map key)).length := by
     rw [estep]
     unfold addK
     rw [if_neg hold]
     exact hS2
    refine wpAny_pure ⟨plainId_quiet F.plain_set_update_loop _, ih (i + 1) _ (by omega) hlt (W.frame _ s' _ _ hst' (by simp) fun b hb o e => ?_) (fun j hj => (hT' j hj).keeps hoS hdS hsb) hS3 fun s'' hm'' hS'' => ?_⟩
    · rw [hsb.2 b (fun h : b = S => hSf (by rw [← h]; exact hb))]; exact e
    · refine hR s'' (Moved.trans W.gtrans ((hm.mono hsub).then_heap (by simp) fun b o hb e => ?_) hm'') hS''
      rw [hsb.2 b (fun h : b = S => hb (by rw [h]; exact List.mem_cons_self))]; exact e
end
section
variable {prog : Program} {w : World} {A : Around} {E : Value → Shared → Prop} {s : Shared}
theorem tK {h : Heap} {S : Addr} {led : Bool} (e : h.get? S = some (cV led)) : SetD prog w h S [] 0 :=
 ⟨_, #[], 0, _, e, ⟨rfl, rfl, rfl⟩, rfl, rfl, ⟨rfl, rfl, D7, Nat.zero_le _⟩, .inl ⟨rfl, by omega⟩, fun e he => by simp at he, List.Pairwise.nil, fun je hje => (by simp [asc, SetTable.fresh] at hje), fun k hk => (by simp at hk)⟩
theorem zC {led : Bool} {l : Addr} {items : Array Value} {key : Nat → List Str} {adr : Nat → Addr} {R : Result → Shared → Prop} (hh : A.handled = none) (hu : A.units + 8 < cLine) (hl : s.heap.IsList l items)
 (hk : ∀ i, i < items.size → items[i]? = some (.ref (adr i)) ∧ TK prog w s.heap (key i) (adr i)) (hn : items.size ≤ 20)
 (hR : ∀ (h' : Heap) (tk : Nat), SetD prog w h' s.heap.objs.size (ddk ((List.range items.size).map key)) (ddk ((List.range items.size).map key)).length → (∀ b o, b < s.heap.objs.size → s.heap.get? b = some o → h'.get? b = some o) → R (.ok (.ret .none)) { s with heap := h', toks := tk }) :
 codeAny (model prog w) A (.call (.builtin "set.__init__") ⟨[.ref s.heap.objs.size, .ref l], []⟩) R { s with heap := s.heap.push (cV led) } := by
 have hS : (s.heap.push (cV led)).get? s.heap.objs.size = some (cV led) := Heap.get?_push_size _ rfl
 have hT : Shared.TypeIs { s with heap := s.heap.push (cV led) } (.ref s.heap.objs.size) "set" := ⟨_, hS, rfl⟩
 refine codeAny_call_builtin F.called_set.init.plain F.entry_set_init (check_set_init_1 hT ?_)
 obtain ⟨ol, hol, hcl, nl, hdl⟩ := hl
 obtain ⟨ocls, odict, odata, oslots⟩ := ol
 simp only at hcl hdl
 subst hcl; subst hdl
 have hol' : (s.heap.push (cV led)).get? l = some { cls := .type "list", dict := odict, data := .seq items nl, slots := oslots } := Heap.get?_push_of_some _ hol
 have s1 := F.sub_list_set
 have s2 := F.sub_list_frozenset
 have s3 : (Value.type "list" == Value.type "dict") = false := by decide
 have hl1 : (s.heap.push (cV led)).IsList l items := ⟨_, hol', rfl, nl, rfl⟩
 unfold Builtin.«set.__init__» noKeywords Builtin.Frozenset.updateFrom
 generalize hPI : pyIter = PI
 wp_walk
 subst hPI
 refine wpAny_pyIter_list hl1 (wpAny_bind (wpAny_runValue ?_))
 have hlS : l < s.heap.objs.size := Heap.lt_size hol
 have hneI : l ≠ (s.heap.push (cV led)).objs.size := by rw [Heap.size_push]; exact Nat.ne_of_lt (Nat.lt_succ_of_lt hlS)
 have hSf : s.heap.objs.size ∉ [(s.heap.push (cV led)).objs.size, l] := by
  rw [Heap.size_push]
  simp only [List.mem_cons, List.not_mem_nil, or_false, not_or]
  exact ⟨Nat.ne_of_lt (Nat.lt_succ_self _), Nat.ne_of_gt hlS⟩
 have up : ∀ {k : List Str} {a : Addr}, TK prog w s.heap k a → TK prog w ((s.heap.push (cV led)).push { cls := .type "list_iterator", data := .fields #[.ref l, .int 0 0] }) k a := fun x => x.moved fun o e => Heap.get?_push_of_some _ (Heap.get?_push_of_some _ e)
 refine Cr ((Walks.list (by simp [hh]) _ l hneI items).toS) s.heap.objs.size hSf (by show A.units + 1 + 1 < cLine; omega) rfl (fun i s' st => by
  obtain ⟨⟨o, ho, _, hd⟩, _⟩ := st
  exact ⟨o, _, ho, hd⟩) adr key (fun i v hv => ?_) hn (items.size - 0) 0 _ (by omega) (Nat.zero_le _) ⟨⟨_, Heap.get?_push_size _ rfl, rfl, rfl⟩, (hl1.push _)⟩ (fun j hj => up (hk j hj).2) ?_ ?_
 · have hi : i < items.size := (Array.getElem?_eq_some_iff.mp hv).1
   have := (hk i hi).1
   rw [this] at hv
   exact (Option.some.inj hv).symm
 · exact tK (led := led) (Heap.get?_push_of_some _ hS)
 · intro s' hm hS'
   obtain ⟨h', g', d', tk', os'⟩ := s'
   have eg : g' = s.gens := hm.gens
   have ed : d' = s.drawn := hm.drawn
   have eo : os' = s.os := hm.os
   subst eg; subst ed; subst eo
   show wpAny _ _ _ _ _ _
   refine wpAny_pure ?_
   show wpAny _ _ (ret Value.none) _ _ _
   refine wpAny_pure (hR h' tk' hS' fun b o hb e => ?_)
   have hb1 : b ≠ s.heap.objs.size := Nat.ne_of_lt hb
   have hb2 : b ≠ (s.heap.push (cV led)).objs.size := by rw [Heap.size_push]; exact Nat.ne_of_lt (Nat.lt_succ_of_lt hb)
   exact hm.heap b o (by simp only [List.mem_cons, List.not_mem_nil, or_false, not_or]; exact ⟨hb1, hb2⟩) (Heap.get?_push_of_some _ (Heap.get?_push_of_some _ e))
theorem call_set_U {l : Addr} {items : Array Value} {key : Nat → List Str} {adr : Nat → Addr} {Q : Value → Shared → Prop} (hh : A.handled = none) (hu : A.units + 16 < cLine) (hl : s.heap.IsList l items)
 (hk : ∀ i, i < items.size → items[i]? = some (.ref (adr i)) ∧ TK prog w s.heap (key i) (adr i)) (hn : items.size ≤ 20)
 (h : ∀ (h' : Heap) (tk : Nat), SetD prog w h' s.heap.objs.size (ddk ((List.range items.size).map key)) (ddk ((List.range items.size).map key)).length → (∀ b o, b < s.heap.objs.size → s.heap.get? b = some o → h'.get? b = some o) → Q (.ref s.heap.objs.size) { s with heap := h', toks := tk }) :
 wpAny (model prog w) A (call (.type "set") [.ref l]) Q E s := by
 obtain ⟨c, tl, hmro⟩ := F.called_set.mro
 have hmade := F.called_set.made
 have hsub := F.called_set.sub
 refine wpAny_call (codeAny_of_tree ?_)
 show wpAny _ _ (callAny (.type "set") _) _ _ _
 refine wpAny_pure ⟨Code.quiet_builtin _ (by decide +kernel), codeAny_builtin F.entry_type_call ?_⟩
 rw [Around.under_plain (weight_type_call_type "set" [.ref l] []) rfl]
 have h1 := F.called_set.notType
 have h2 := F.called_set.canCreate
 have hct := F.typeCall_set_1 (.ref l)
 repeat (any_goals (first | assumption | wp_step))
 refine codeAny_mono (code_set_new_1 (.ref l) (E := E) (Q₁ := fun obj s₁ => ∃ led : Bool, obj = .ref s.heap.objs.size ∧ s₁ = { s with heap := s.heap.push (cV led) }) fun led => ⟨led, rfl, rfl⟩) fun r s₁ hr => ?_
 cases r with
 | error e => exact hr
 | ok fl =>
  cases fl with
  | ret obj =>
   obtain ⟨led, rfl, rfl⟩ := hr
   have hT : Shared.TypeIs { s with heap := s.heap.push (cV led) } (.ref s.heap.objs.size) "set" := ⟨_, Heap.get?_push_size _ rfl, rfl⟩
   have hli := F.called_set.init.lookup
   have hbi := F.called_set.init.bind (.ref s.heap.objs.size)
   repeat (any_goals (first | assumption | wp_step))
   refine codeAny_mono (zC (R := wants (fun r s₂ => r = .none ∧ ∃ h' tk, s₂ = { s with heap := h', toks := tk } ∧ SetD prog w h' s.heap.objs.size (ddk ((List.range items.size).map key)) (ddk ((List.range items.size).map key)).length ∧
    (∀ b o, b < s.heap.objs.size → s.heap.get? b = some o → h'.get? b = some o)) E) (by simp [hh]) (by show A.units + 1 + 8 < cLine; omega) hl hk hn fun h' tk q1 q2 => ⟨rfl, h', tk, rfl, q1, q2⟩) fun r₂ s₂ hr₂ => ?_
   cases r₂ with
   | error e => exact hr₂
   | ok fl₂ =>
    cases fl₂ with
    | ret r =>
     obtain ⟨rfl, h', tk, rfl, hS', hk'⟩ := hr₂
     repeat (any_goals (first | assumption | wp_step))
     exact h _ _ hS' hk'
    | _ => exact hr₂.elim
  | _ => exact hr.elim
theorem len_U {S : Addr} {ks : List (List Str)} {n : Nat} {Q : Value → Shared → Prop} (hS : SetD prog w s.heap S ks n) (hn : n ≤ 20) (h : ∀ t tk, Q (.int n t) { s with toks := tk }) : wpAny (model prog w) A (call (.builtin "len") [.ref S]) Q E s := by
 obtain ⟨o, es, ep, t, ho, hex, hd, hsz, T, hm, hE, _⟩ := hS
 subst hsz
 exact call_len_set ho hex hd (eX T) (Int.lt_of_le_of_lt (show ((es.size : Nat) : Int) ≤ 20 by omega) (by decide)) (h _ _)
end
end ST
namespace FD
open PySem PySem.Spec PyProof.Rows L2
def gB : List Dv → Option (Rs Dv)
 | [.lst ds] => match keysOf ds with
  | some ks => if ks.length ≤ 20 then some (.ok (.int (ST.ddk ks).length)) else none
  | none => none
 | _ => none
theorem range_getD {α : Type} (ks : List α) (d : α) (n : Nat) (h : n = ks.length) : (List.range n).map (fun i => ks.getD i d) = ks := by
 subst h
 apply List.ext_getElem?
 intro i
 by_cases hi : i < ks.length
 · simp [hi]
 · simp [hi]
section
variable {X : Cx} {p p2 pos pos2 : Pos} {e : Expr} {ga : FnA}
theorem ou (hu : X.A.units + 64 < cLine) (hc : X.calm = true) (hg : Gl X "len") (hm : X.mg "len" = none) (hg2 : Gl X "set") (hm2 : X.mg "set" = none) (ha : FA X [e] ga)
 (he : starEach [.Call (.Name "set" p2) [e] [] pos2] X.env = (false, eval (.Call (.Name "set" p2) [e] [] pos2) X.env) :: starEach [] X.env := by kernel_rfl) (hpl : (backTo pos (starEach [] X.env)).any (·.1) = false := by kernel_rfl)
 (he2 : starEach [e] X.env = (false, eval e X.env) :: starEach [] X.env := by kernel_rfl) (hpl2 : (backTo pos2 (starEach [] X.env)).any (·.1) = false := by kernel_rfl) :
 FE X (.Call (.Name "len" p) [.Call (.Name "set" p2) [e] [] pos2] [] pos) (fB1 gB ga) := ⟨fun pins s σ H Q I ⟨ρ, E, o⟩ => by
 refine wpAny_Call_Name_kw (cW I hg hm PySem.boot_len ?_ (by decide) (by decide))
 refine PyProof.Rows.callWith_builtin1 ?_ he hpl
 rw [he]
 show wpAny _ _ (spliced ((false, eval (.Call (.Name "set" p2) [e] [] pos2) X.env) :: backTo pos (starEach [] X.env))) _ _ s
 refine Calls.spliced_cons ?_
 refine wpAny_Call_Name_kw (cW I hg2 hm2 (u := .type "set") (by decide +kernel) ?_ (by decide) (by decide))
 refine PyProof.Rows.callWith_type1 (thn (ha.h pos2 pins s σ H _ I ⟨ρ, E, OutA.bind o fun ds vs H1 e1 rs o1 => (show ∃ ds, Reps X.K H1 ds vs ∧ Out X H1 (gB ds) Q from ⟨ds, rs, o1⟩)⟩) fun us s1 ⟨vs, H1, I1, r1, ds, rs, o1⟩ => ?_) he2 hpl2
 unfold gB at o1
 split at o1
 · rename_i es
   obtain ⟨v, rfl, r⟩ := bx rs
   obtain ⟨l, xs, rfl, hl, rx⟩ := r.lstE
   obtain ⟨u, rfl, ru⟩ := b5 r1
   cases (show u = Value.ref l from ru)
   split at o1
   · rename_i ks hks
     split at o1
     · rename_i hnd
       obtain ⟨z, its, n, rv, hz, eh⟩ := I1.lstM hl
       obtain ⟨q1, q2⟩ := qi I1 hks rx rv
       have hsz : its.toArray.size = ks.length := by simp [q1]
       refine ST.call_set_U (items := its.toArray) (key := fun i => ks.getD i []) (adr := fun i => match its[i]? with | some (.ref a) => a | _ => 0) (I1.ok.hd hc) (by omega) ⟨_, eh, rfl, n, rfl⟩ (fun i hi => ?_) (by rw [hsz]; exact hnd) fun h' tk hS hkp => ?_
       · obtain ⟨a, e1, e2⟩ := q2 i (by simpa using hi)
         simp only [List.getElem?_toArray, e1]
         exact ⟨trivial, e2⟩
       · refine Calls.spliced_nil ?_
         rw [range_getD ks [] _ hsz] at hS
         refine ST.len_U hS (Nat.le_trans (ST.ddk_le ks) hnd) fun t tk2 => ⟨.int ((ST.ddk ks).length : Nat), H1, ?_, ⟨t, rfl⟩, o1 _ H1 (.refl H1) rfl⟩
         exact I1.kept (t' := tk2) fun b u q => hkp b u (Heap.lt_size q) q
     · exact o1.elim
   · exact o1.elim
 · exact o1.elim⟩
end
section
variable {prog : Program} {w : World} {A : Around} {E : Value → Shared → Prop} {s : Shared}
end
section
variable {prog : Program} {w : World} {A : Around} {E : Value → Shared → Prop} {s : Shared}
end
structure ZMt (z TI TO i1 i2 a b : Addr) (i : Nat) (h : Heap) : Prop where
 z : IsZip h z TI TO .none
 ti : IsPair h TI (.ref i1) (.ref i2)
 to : ∃ p q, IsPair h TO p q
 j1 : h.IsTupleIter i1 a i
 j2 : h.IsListIter i2 b i
def tC (X : Cx) (i : Nat) (fc : FnE) : TS := fun D σ H => ∃ ρ, Envs X.K H σ ρ ∧ match fc ρ with
 | none => False
 | some (.exc c) => XW X c H
 | some (.ok d) => ∃ ys, d = .lst ys ∧ ∀ H5 p vs, Same H H5 → H5 p = none → Reps X.K H5 ys vs → D.nx (σ.set i (some (.ref p))) (upd H5 p (.lst vs))
theorem ql {X : Cx} {tg elt iter : Expr} {ifs : List Expr} {scope : Scope} {pos : Pos} {src : FnA} {tst : Option FnB} {fe : FnE} {b : Dv → Ev → Option Ev} {y : Str} {py spos : Pos} (i : Nat) (hnd : X.N.Nodup) (hiy : X.N[i]? = some y) (hxy : Loc X.env.scope y) (hfy : X.fn y = true ∨ X.env.scope.names.lookup y = some .local)
 (osc : Scope) (N ns : List Str) (js : List Nat) (cs : List (Str × Nat)) (hosc : X.env.scope = osc) (hN : X.N = N) (ok : eV osc scope cs N) (hcl : closureFor scope X.env = pure (ij scope.names X.env [])) (hc : X.calm = true)
 (hback : ∀ ρ d ρ', b d (cZ ns.length cs ρ) = some ρ' → fgt js ρ' = cZ ns.length cs ρ)
 (hi : FIG X tg iter src) (htg : ∀ C s H fp, FG (al X (ns ++ cs.map (·.1)) scope C s H fp) tg b) (helt : ∀ C s H fp, FE (al X (ns ++ cs.map (·.1)) scope C s H fp) elt fe) (hifs : ∀ C s H fp, oN (al X (ns ++ cs.map (·.1)) scope C s H fp) ifs tst)
 (hsw : swapsWith (.ListComp elt [⟨tg, iter, ifs, 0⟩] scope pos) (some (.Name y py)) spos.line X.env = pure true := by kernel_rfl)
 (hs : ∀ x, foldedSetIterable iter X.env x = pure x := by intro _; kernel_rfl) : PS X (.Assign [.Name y py] (.ListComp elt [⟨tg, iter, ifs, 0⟩] scope pos) spos) (tC X i (aA ns.length cs src b tst fe)) := by
 subst hosc hN
 intro pins s σ H D0 I h
 obtain ⟨ρ, E, o⟩ := h
 match ho : aA ns.length cs src b tst fe ρ with
 | none => rw [ho] at o; exact o.elim
 | some r =>
  rw [ho] at o
  have key : OutG X H (src ρ) fun J H' => ∃ ds ys, Same H H' ∧ WkG X.K J ds H' ∧ ds.length ≤ 100000 ∧ ys.length ≤ 100000 ∧ eQ b tst fe (cZ ns.length cs ρ) ds = some ys ∧ (∀ H5 p vs, Same H' H5 → H5 p = none → Reps X.K H5 ys vs → D0.nx (σ.set i (some (.ref p))) (upd H5 p (.lst vs))) := by
   rcases Cc ho with ⟨c, e1, e2⟩ | ⟨ds, ys, e1, e2, l1, l2, e3⟩
   · subst e2; rw [e1]; exact o
   · subst e3; rw [e1]; obtain ⟨ys', ey, o⟩ := o; cases ey; exact fun J H' e wk => ⟨ds, ys, e, wk, l1, l2, e2, fun H5 p vs e3 hp r => o H5 p vs (e.trans e3) hp r⟩
  rw [exec_Assign_Name_used _ _ _ _ hsw]
  refine wpAny_bind (wpAny_standAt (wpAny_bind ?_))
  show wpAny _ X.A (do let _ ← comprehension (.ListComp elt [⟨tg, iter, ifs, 0⟩] scope pos) scope X.env _ (newList []) false (eval iter X.env) (some (assign (.Name y py) X.env))) _ _ s
  refine wpAny_bind (wpAny_mono (wpAny_comprehension_free (use := some (assign (.Name y py) X.env)) (Q := fun _ s' => SP X pins D0 .next s') rfl hs hcl ok.kind ok.names
   (thn (hi.h pins s σ H _ I ⟨ρ, E, key⟩) fun v s1 h1 => thn h1 fun itv s2 h2 => ?_)) (fun _ s' hq => wpAny_pure (wpAny_pure hq)) fun _ _ e => e)
  obtain ⟨it, fp, tn, J, H2, e, I2, T, st2, f2, ds, ys, e12, wk, hdl, hyl, hm, hQ⟩ := h2
  subst e
  refine kg cs ok hc htg helt hifs hback (E.mono e12) I2 T st2 f2 wk hdl hyl hm (RR := fun acc C => compPost (model X.prog X.w) X.A X.xe (some (assign (.Name y py) X.env)) (fun _ s' => SP X pins D0 .next s') acc C) fun D C s6 H5 vs m6 I6 D5 e5 r5 n6 C6 CD hC => ?_
  have Cn : (upd H5 D (.lst vs)) C = none := by rw [ao CD]; exact C6
  have FC := I2.fpOk hC Cn
  obtain ⟨oC, es, ep, hoC, hdC, rC⟩ := id n6
  have I6p := I6.pinned (fp := [C]) (fun b hb => by
   have e : b = C := by simpa using hb
   subst e; exact FC) (fun b hb => by
   have e : b = C := by simpa using hb
   subst e
   exact ⟨oC, hoC, fun v z => by rw [hdC] at z; cases z⟩)
  refine thn (eR hnd hiy hxy hfy _ s6 σ _ (.ref D) (.ref D) (fun σ' H' => σ' = σ.set i (some (.ref D)) ∧ H' = upd H5 D (.lst vs)) I6p rfl ⟨rfl, rfl⟩) fun _ s8 ⟨σ8, H8, I8, e1, e2⟩ => ?_
  subst e1 e2
  have hC8 := (I8.pin (C, oC) (List.mem_append_right _ (List.mem_append_right _ (bf (by simp) hoC)))).1
  refine ⟨m6, ⟨oC, es, ep, hC8, hdC, rC⟩, fun h9 sb9 => ?_⟩
  have I8' : Inv X pins (σ.set i (some (.ref D))) (upd H5 D (.lst vs)) s8 := I8.unpinned
  obtain ⟨q0, q1, q2, q3, q4, q5⟩ := FC
  have I9 : Inv X pins (σ.set i (some (.ref D))) (upd H5 D (.lst vs)) { s8 with heap := h9 } := I8'.turned (t' := s8.toks) (fun b o hb e => sb9.extBut b o hb e) q0 q1 q3 q4 q5
  exact ⟨_, _, I9, hQ H5 D vs e5 D5 r5⟩
section
variable {X : Cx} {i : Nat} {st : Stmt} {sts : List Stmt} {f : hZ} {fc : FnE}
theorem kv {n : Nat} {cs : List (Str × Nat)} {src : FnA} {b : Dv → Ev → Option Ev} {tst : Option FnB} {fe : FnE} (ρ : Ev) (d : Dv) (h : aA n cs src b tst fe ρ = some (.ok d)) : ∃ ys, d = .lst ys := by
 rcases Cc h with ⟨c, e1, e2⟩ | ⟨ds, ys, e1, e2, l1, l2, e3⟩
 · cases e2
 · cases e3; exact ⟨ys, rfl⟩
end
def jR {α : Type} (le : α → α → Bool) (x : α) : List α → List α
 | [] => [x]
 | y :: l => if le x y then x :: y :: l else y :: jR le x l
def isortB {α : Type} (le : α → α → Bool) : List α → List α
 | [] => []
 | x :: l => jR le x (isortB le l)
theorem c6 {α : Type} (le : α → α → Bool) (x : α) : ∀ l : List α, (jR le x l).Perm (x :: l)
 | [] => .refl _
 | y :: l => by
  unfold jR
  split
  · exact .refl _
  · exact ((c6 le x l).cons y).trans (List.Perm.swap ..)
theorem isortB_perm {α : Type} (le : α → α → Bool) : ∀ l : List α, (isortB le l).Perm l
 | [] => .refl _
 | x :: l => (c6 le x _).trans ((isortB_perm le l).cons x)
structure zD {α : Type} (le : α → α → Bool) : Prop where
 t : ∀ a b, le a b = false → le b a = true
 tr : ∀ a b c, le a b = true → le b c = true → le a c = true
 an : ∀ a b, le a b = true → le b a = true → a = b
theorem gC {α : Type} {le : α → α → Bool} (o : zD le) (x : α) : ∀ l : List α, l.Pairwise (fun a b => le a b = true) → (jR le x l).Pairwise (fun a b => le a b = true)
 | [], _ => by simp [jR]
 | y :: l, h => by
  unfold jR
  rw [List.pairwise_cons] at h
  split
  · rename_i hc
    rw [List.pairwise_cons, List.pairwise_cons]
    refine ⟨fun z hz => ?_, h⟩
    rcases List.mem_cons.mp hz with rfl | hz
    · exact hc
    · exact o.tr _ _ _ hc (h.1 z hz)
  · rename_i hc
    rw [List.pairwise_cons]
    refine ⟨fun z hz => ?_, gC o x l h.2⟩
    rcases List.mem_cons.mp ((c6 le x l).mem_iff.mp hz) with rfl | hz
    · exact o.t _ _ (by simpa using hc)
    · exact h.1 z hz
theorem isortB_sorted {α : Type} {le : α → α → Bool} (o : zD le) : ∀ l : List α, (isortB le l).Pairwise (fun a b => le a b = true)
 | [] => List.Pairwise.nil
 | x :: l => gC o x _ (isortB_sorted o l)
theorem sorted_uniq {α : Type} {le : α → α → Bool} (o : zD le) : ∀ {l m : List α}, l.Perm m → l.Pairwise (fun a b => le a b = true) → m.Pairwise (fun a b => le a b = true) → l = m
 | [], m, hp, _, _ => (List.Perm.nil_eq hp)
 | x :: l, [], hp, _, _ => by simpa using hp.length_eq
 | x :: l, y :: m, hp, h1, h2 => by
  rw [List.pairwise_cons] at h1 h2
  have e : x = y := by
   have hx : x ∈ y :: m := hp.mem_iff.mp List.mem_cons_self
   have hy : y ∈ x :: l := hp.mem_iff.mpr List.mem_cons_self
   rcases List.mem_cons.mp hx with e | hx
   · exact e
   · rcases List.mem_cons.mp hy with e | hy
     · exact e.symm
     · exact o.an _ _ (h1.1 y hy) (h2.1 x hx)
  subst e
  rw [sorted_uniq o (hp.cons_inv) h1.2 h2.2]
def leI (a b : Int) : Bool := decide (a ≤ b)
def leS (a b : Str) : Bool := !decide (b.cps.toList < a.cps.toList)
theorem Dt : zD leI := ⟨fun a b h => by simp [leI] at *; omega, fun a b c h h' => by simp [leI] at *; omega, fun a b h h' => by simp [leI] at *; omega⟩
theorem ordS : zD leS where
 t := fun a b h => by
  simp only [leS, Bool.not_eq_false', decide_eq_true_eq] at h
  simp only [leS, Bool.not_eq_true', decide_eq_false_iff_not]
  exact fun h' => List.lt_irrefl _ (List.lt_trans h h')
 tr := fun a b c h h' => by
  simp only [leS, Bool.not_eq_true', decide_eq_false_iff_not, List.not_lt] at *
  exact List.le_trans h h'
 an := fun a b h h' => by
  simp only [leS, Bool.not_eq_true', decide_eq_false_iff_not, List.not_lt] at *
  have e : a.cps.toList = b.cps.toList := List.le_antisymm h h'
  obtain ⟨⟨a⟩⟩ := a; obtain ⟨⟨b⟩⟩ := b
  simp at e
  rw [e]
def c7 : List Dv → Option (List Int)
 | [] => some []
 | .int i :: r => (c7 r).map (i :: ·)
 | _ => none
def zE : List Dv → Option (Rs Dv)
 | [.lst ds] => match c7 ds with
  | some ns => if ns.length < 64 then some (.ok (.lst ((isortB leI ns).map Dv.int))) else none
  | none => match bM ds with
   | some ss => if ss.length < 64 then some (.ok (.lst ((isortB leS ss).map Dv.str))) else none
   | none => none
 | _ => none
section
variable {X : Cx} {pins : List (Addr × Obj)} {σ : L2.St} {H : Hp} {s : Shared}
theorem jo {K : PySem.W.Frag} : ∀ {ds : List Dv} {ns : List Int} {ys : List V} {its : List Value}, c7 ds = some ns → Reps K H ds ys → Vals ys its → IntsAre its ns
 | [], ns, ys, its, h, r, v => by
  cases h
  cases (show ys = [] from r)
  cases v
  exact .nil
 | .int i :: ds, ns, ys, its, h, r, v => by
  obtain ⟨y, us, rfl, r1, r2⟩ : ∃ v us, ys = v :: us ∧ Rep K H (.int i) v ∧ Reps K H ds us := r
  cases (show y = .int i from r1)
  obtain ⟨k', h1, rfl⟩ := Option.map_eq_some_iff.mp (show (c7 ds).map (i :: ·) = some ns from h)
  cases v with
  | cons v1 v2 =>
   obtain ⟨t, rfl⟩ := v1
   exact .cons i t (jo h1 r2 v2)
 | .non :: ds, _, _, _, h, _, _ => by cases h
 | .bl _ :: ds, _, _, _, h, _, _ => by cases h
 | .str _ :: ds, _, _, _, h, _, _ => by cases h
 | .tup _ :: ds, _, _, _, h, _, _ => by cases h
 | .lst _ :: ds, _, _, _, h, _, _ => by cases h
 | .scr _ :: ds, _, _, _, h, _, _ => by cases h
 | .exn _ :: ds, _, _, _, h, _, _ => by cases h
theorem gc {K : PySem.W.Frag} : ∀ {ds : List Dv} {ns : List Str} {ys : List V} {its : List Value}, bM ds = some ns → Reps K H ds ys → Vals ys its → StrsAre its ns
 | [], ns, ys, its, h, r, v => by
  cases h
  cases (show ys = [] from r)
  cases v
  exact .nil
 | .str i :: ds, ns, ys, its, h, r, v => by
  obtain ⟨y, us, rfl, r1, r2⟩ : ∃ v us, ys = v :: us ∧ Rep K H (.str i) v ∧ Reps K H ds us := r
  cases (show y = .str i from r1)
  obtain ⟨k', h1, rfl⟩ := Option.map_eq_some_iff.mp (show (bM ds).map (i :: ·) = some ns from h)
  cases v with
  | cons v1 v2 =>
   obtain ⟨t, rfl⟩ := v1
   exact .cons i t (gc h1 r2 v2)
 | .non :: ds, _, _, _, h, _, _ => by cases h
 | .bl _ :: ds, _, _, _, h, _, _ => by cases h
 | .int _ :: ds, _, _, _, h, _, _ => by cases h
 | .tup _ :: ds, _, _, _, h, _, _ => by cases h
 | .lst _ :: ds, _, _, _, h, _, _ => by cases h
 | .scr _ :: ds, _, _, _, h, _, _ => by cases h
 | .exn _ :: ds, _, _, _, h, _, _ => by cases h
theorem cX : ∀ {its : List Value} {ns : List Int}, IntsAre its ns → Vals (ns.map V.int) its
 | _, _, .nil => .nil
 | _, _, .cons n t h => .cons ⟨t, rfl⟩ (cX h)
theorem eY : ∀ {its : List Value} {ns : List Str}, StrsAre its ns → Vals (ns.map V.str) its
 | _, _, .nil => .nil
 | _, _, .cons n t h => .cons ⟨t, rfl⟩ (eY h)
theorem kw {K : PySem.W.Frag} (H : Hp) : ∀ ns : List Int, Reps K H (ns.map Dv.int) (ns.map V.int)
 | [] => rfl
 | n :: ns => ⟨_, _, rfl, rfl, kw H ns⟩
theorem eZ {K : PySem.W.Frag} (H : Hp) : ∀ ns : List Str, Reps K H (ns.map Dv.str) (ns.map V.str)
 | [] => rfl
 | n :: ns => ⟨_, _, rfl, rfl, eZ H ns⟩
theorem kx : ∀ (p : Str) (l : List Str), risingS p l = true → (p :: l).Pairwise (fun a b => leS a b = true)
 | p, [], _ => by simp
 | p, x :: r, h => by
  have h' : (!ltCps x.cps.toList p.cps.toList) = true ∧ risingS x r = true := by simpa [risingS] using h
  have ih := kx x r h'.2
  have hx : leS p x = true := by
   unfold leS
   rw [← ltCps_eq]
   exact h'.1
  rw [List.pairwise_cons]
  refine ⟨fun z hz => ?_, ih⟩
  rw [List.pairwise_cons] at ih
  rcases List.mem_cons.mp hz with rfl | hz
  · exact hx
  · exact ordS.tr _ _ _ hx (ih.1 z hz)
theorem sortedS_pw (l : List Str) (h : sortedS l = true) : l.Pairwise (fun a b => leS a b = true) := by
 cases l with
 | nil => exact .nil
 | cons x r => exact kx x r h
theorem line64 {n : Nat} (h : n < 64) : n ≤ sizeLine := by
 have : sizeLine = 16777216 := by decide
 omega
theorem qm : CallR X (.builtin "sorted") (fun xs H Q => ∃ a ws ds, xs = [.ref a] ∧ H a = some (.lst ws) ∧ Reps X.K H ds ws ∧
 ((∃ ns, c7 ds = some ns ∧ ns.length < 64 ∧ ∀ l, H l = none → Q (.ref l) (upd H l (.lst ((isortB leI ns).map V.int)))) ∨
  (∃ ns, bM ds = some ns ∧ ns.length < 64 ∧ ∀ l, H l = none → Q (.ref l) (upd H l (.lst ((isortB leS ns).map V.str)))))) := by
 intro pins s σ H xs us Q I r h
 obtain ⟨a, ws, ds, rfl, h1, h2, h3⟩ := h
 obtain ⟨u, rfl, ru⟩ := b5 r
 cases ru
 obtain ⟨z, its, n, rv, hl, e⟩ := I.lstM h1
 rcases h3 with ⟨ns, hi, hlen, q⟩ | ⟨ns, hi, hlen, q⟩
 · have hI := jo hi h2 rv
   have hn := hI.length
   refine sorted_ints ⟨_, e, rfl, n, rfl⟩ hI (by omega) fun out ns' a1 a2 a3 => ?_
   have es : ns' = isortB leI ns := sorted_uniq Dt (a2.trans (isortB_perm leI ns).symm) (a3.imp fun h => by simpa [leI] using h) (isortB_sorted Dt ns)
   subst es
   obtain ⟨ep, he⟩ := sortedAll_at s.heap its out
   refine ⟨.ref (s.heap.objs.size + 1), _, I.laid (t' := s.toks) (o := .lst ((isortB leI ns).map V.int)) (fun b ob q => sortedAll_old q) (Nat.le_succ _) ?_, rfl, q _ (I.hok.fresh (Nat.le_succ _))⟩
   exact ⟨line64 (by rw [List.length_map, (isortB_perm leI ns).length_eq]; exact hlen), out.toList, ep, cX a1, by simpa [seqObj] using he⟩
 · have hI := gc hi h2 rv
   have hn : its.length = ns.length := by
    have : ∀ {vs : List Value} {ss : List Str}, StrsAre vs ss → vs.length = ss.length := fun h => by
     induction h with
     | nil => rfl
     | cons _ _ _ ih => simp [ih]
    exact this hI
   refine sorted_strs ⟨_, e, rfl, n, rfl⟩ hI (by omega) fun out ns' a1 a2 a3 => ?_
   have es : ns' = isortB leS ns := sorted_uniq ordS (a2.trans (isortB_perm leS ns).symm) (sortedS_pw _ a3) (isortB_sorted ordS ns)
   subst es
   obtain ⟨ep, he⟩ := sortedAll_at s.heap its out
   refine ⟨.ref (s.heap.objs.size + 1), _, I.laid (t' := s.toks) (o := .lst ((isortB leS ns).map V.str)) (fun b ob q => sortedAll_old q) (Nat.le_succ _) ?_, rfl, q _ (I.hok.fresh (Nat.le_succ _))⟩
   exact ⟨line64 (by rw [List.length_map, (isortB_perm leS ns).length_eq]; exact hlen), out.toList, ep, eY a1, by simpa [seqObj] using he⟩
end
section
variable {X : Cx} {p pos : Pos} {e : Expr} {es : List Expr} {ga : FnA}
end
section
variable {X : Cx} {p pos : Pos} {e : Expr} {es : List Expr} {ga : FnA}
end
section
variable {X : Cx} {p pos : Pos} {e : Expr} {es : List Expr} {ga : FnA}
end
section
variable {prog : Program} {w : World} {A : Around} {E : Value → Shared → Prop} {s : Shared}
end
section
variable {prog : Program} {w : World} {A : Around} {E : Value → Shared → Prop} {s : Shared}
end
theorem uY {tst : Option FnB} {elt : FnE} {cap : Ev} : ∀ ds : List Dv, pJ tst elt cap ds = eQ (gN 0) tst elt cap ds
 | [] => rfl
 | d :: ds => by
  unfold pJ eQ
  rw [uY ds]
  rfl
theorem wJ (cs : List (Str × Nat)) (src : FnA) (tst : Option FnB) (fe : FnE) : aT cs src tst fe = aA 1 cs src (gN 0) tst fe := by
 funext ρ
 show bnd (src ρ) _ = bnd (src ρ) _
 congr 1
 funext ds
 rw [uY]
 rfl
theorem tL {X : Cx} {tg elt iter : Expr} {ifs : List Expr} {scope : Scope} {pos : Pos} {src : FnA} {tst : Option FnB} {fe : FnE} (osc : Scope) (N ns : List Str) (js : List Nat) (cs : List (Str × Nat)) (hosc : X.env.scope = osc) (hN : X.N = N) (ok : eV osc scope cs N) (hcl : closureFor scope X.env = pure (ij scope.names X.env [])) (hc : X.calm = true)
 (hback : ∀ ρ d ρ', gN 0 d (cZ ns.length cs ρ) = some ρ' → fgt js ρ' = cZ ns.length cs ρ)
 (hi : FIG X tg iter src) (htg : ∀ C s H fp, FG (al X (ns ++ cs.map (·.1)) scope C s H fp) tg (gN 0)) (helt : ∀ C s H fp, FE (al X (ns ++ cs.map (·.1)) scope C s H fp) elt fe) (hifs : ∀ C s H fp, oN (al X (ns ++ cs.map (·.1)) scope C s H fp) ifs tst) (h1 : ns.length = 1 := by rfl)
 (hs : ∀ x, foldedSetIterable iter X.env x = pure x := by intro _; kernel_rfl) : FE X (.ListComp elt [⟨tg, iter, ifs, 0⟩] scope pos) (aT cs src tst fe) := by
 have h := jf (pos := pos) osc N ns js cs hosc hN ok hcl hc hback hi htg helt hifs hs
 rw [h1] at h
 rw [wJ]
 exact h
theorem qo {X : Cx} {st : Stmt} {i : Nat} {fc : FnE} (h : PS X st (tC X i fc)) (hl : ∀ ρ d, fc ρ = some (.ok d) → ∃ ys, d = .lst ys) : FS X st (bF i fc) := ⟨fun pins s σ H D I ⟨ρ, E, o⟩ => by
 refine h pins s σ H D I ⟨ρ, E, ?_⟩
 unfold bF at o
 match hf : fc ρ with
 | none => rw [hf] at o; exact o.elim
 | some (.exc c) => rw [hf] at o; exact o
 | some (.ok d) =>
  rw [hf] at o
  obtain ⟨ys, rfl⟩ := hl ρ d hf
  exact ⟨ys, rfl, fun H5 p vs e5 hp rs => o _ _ (e5.trans (aj hp _)) ((E.mono (e5.trans (aj hp _))).set ⟨p, vs, rfl, ai, Reps.mono (aj hp _) _ _ rs⟩)⟩⟩
end FD
namespace ST
open PySem PySem.SetTable PyProof.Rows
abbrev byT (w : World) : Bool := w.params.followText "set-order"
def SetS (prog : Program) (w : World) (h : Heap) (S : Addr) (ks : List Str) : Prop :=
 ∃ o es ep t, h.get? S = some o ∧ o.ExactSet ∧ o.data = .set es ep t ∧ t.fits es.size = true ∧ ks.length ≤ 60 ∧ t.led = (!byT w) ∧ (es.size ≠ 0 → t.plain = false) ∧ ElemsOf (PySem.strKind prog w) es.toList ∧ (∀ e ∈ es.toList, ∃ x t, e.2 = .str x t) ∧ (es.toList.map fun e => strOf e.2).Perm ks
theorem zF (t : SetTable) (n : Nat) : (t.orStandIn n).led = t.led ∧ ((t.orStandIn n).plain = t.plain ∨ (t.orStandIn n).plain = false) := by
 unfold SetTable.orStandIn
 split
 · exact ⟨rfl, .inl rfl⟩
 · exact ⟨rfl, .inr rfl⟩
theorem wK (t : SetTable) (es : Array (Int × Value)) (h : Int) (x : Value) : (layNew t es h x).2.1.led = t.led := by
 unfold layNew
 split
 · exact (zF _ _).1
 · rfl
theorem tM {m finger moves : Nat} {led plain : Bool} {hs : Array Int} {t : SetTable} {order : Array Nat} (e : laid m finger moves led plain hs = some (t, order)) : t.led = led ∧ t.plain = plain := by
 unfold laid at e
 cases hc : layClean m hs with
 | none => rw [hc] at e; cases e
 | some o => rw [hc] at e; cases e; exact ⟨rfl, rfl⟩
theorem qp (t : SetTable) (es : Array (Int × Value)) (n : Nat) (hp : t.plain = false) : (relayAll t es n).2.1.led = t.led ∧ (relayAll t es n).2.1.plain = false := by
 unfold relayAll
 split
 · rename_i t' order e
   obtain ⟨h1, h2⟩ := tM e
   dsimp only
   split
   · exact ⟨h1, h2.trans hp⟩
   · exact ⟨rfl, rfl⟩
 · exact ⟨rfl, rfl⟩
section
variable {prog : Program} {w : World} {A : Around} {E : Value → Shared → Prop} {s : Shared}
theorem qr {h : Heap} {S : Addr} {o : Obj} {es : Array (Int × Value)} {ep : Nat} {t : SetTable} (ho : h.get? S = some o) (hex : o.ExactSet) (hd : o.data = .set es ep t) {es' : Array (Int × Value)} {t' : SetTable} {ks : List Str} (hf : t'.fits es'.size = true) (hk : ks.length ≤ 60) (hl : t'.led = (!byT w)) (hp : t'.plain = false)
 (hel : ElemsOf (PySem.strKind prog w) es'.toList) (hs : ∀ e ∈ es'.toList, ∃ x t, e.2 = .str x t) (hm : (es'.toList.map fun e => strOf e.2).Perm ks) : SetS prog w (h.update S (Obj.putSet es' t')) S ks := by
 have hg := Heap.get?_update_self (Obj.putSet es' t') ho (by rw [putSet_of es' t' hd]; rfl)
 rw [putSet_of es' t' hd] at hg
 exact ⟨_, es', ep + 1, t', hg, hex, rfl, hf, hk, hl, fun _ => hp, hel, hs, hm⟩
theorem ky {l l' : List (Int × Value)} (p : l'.Perm l) (hs : ∀ e ∈ l, ∃ x t, e.2 = Value.str x t) {ks : List Str} (hm : (l.map fun e => strOf e.2).Perm ks) : (∀ e ∈ l', ∃ x t, e.2 = Value.str x t) ∧ (l'.map fun e => strOf e.2).Perm ks :=
 ⟨fun e he => hs e (p.mem_iff.mp he), (p.map _).trans hm⟩
theorem uZ {es : Array (Int × Value)} {ks : List Str} {k : Str} (hs : ∀ e ∈ es.toList, ∃ x t, e.2 = .str x t) (hm : (es.toList.map fun e => strOf e.2).Perm ks) : (∃ e ∈ es.toList, (PySem.strKind prog w).is k e.2 = true) ↔ k ∈ ks := by
 rw [← hm.mem_iff, List.mem_map]
 constructor
 · rintro ⟨e, he, hk⟩
   obtain ⟨x, t, ex⟩ := hs e he
   refine ⟨e, he, ?_⟩
   rw [ex] at hk ⊢
   have : (x == k) = true := by simpa [PySem.strKind, Value.isStrOf] using hk
   show x = k
   simpa using this
 · rintro ⟨e, he, hk⟩
   obtain ⟨x, t, ex⟩ := hs e he
   refine ⟨e, he, ?_⟩
   rw [ex] at hk ⊢
   have : x = k := hk
   rw [this]
   simp [PySem.strKind, Value.isStrOf]
theorem D8 {S : Addr} {ks : List Str} {k : Str} {tk : Tok} {Q : Bool → Shared → Prop} (hS : SetS prog w s.heap S ks) (hn : ks.length < 60)
 (h : ∀ b h', Heap.SameBut S s.heap h' → SetS prog w h' S (addK ks k) → Q b { s with heap := h' }) : wpAny (model prog w) A (setAddHashed S (.str k tk) ((PySem.strKind prog w).hash k)) Q E s := by
 obtain ⟨o, es, ep, t, ho, hex, hd, hf, hk60, hl, hp, hel, hs, hm⟩ := id hS
 have hkey : (PySem.strKind prog w).is k (.str k tk) = true := strKind_is prog w k tk
 have hsc : (Value.str k tk).scannable = true := rfl
 have hlen : es.size = ks.length := by have := hm.length_eq; simpa using this
 have hb : es.size < scanBound := by rw [hlen]; unfold scanBound; omega
 unfold setAddHashed setAddHashedIn
 refine wpAny_holding (wpAny_bind (wpAny_setState_of ho hd hf ?_))
 dsimp only
 rw [byScan_of hsc hb hel, if_pos rfl]; unfold setAddByScan
 refine wpAny_bind (wpAny_bind (wpAny_rule (wpAny_bind (wpAny_setScan_of hkey ho hd hf hel ?_))))
 have gv : ∀ (b : Bool) {s₁ : Shared} {Q' : Unit → Shared → Prop}, Q' () s₁ → wpAny (model prog w) A (match b with | true => rule "set.scan.the-table-gave-way" | false => pure ()) Q' E s₁ := fun b _ _ z => by
  cases b
  · exact wpAny_pure z
  · exact wpAny_rule z
 cases hr : List.findIdx? (fun e => (PySem.strKind prog w).is k e.2) es.toList with
 | some j =>
  obtain ⟨hj, pj, _⟩ := List.findIdx?_eq_some_iff_getElem.mp hr
  have hin : k ∈ ks := (uZ (prog := prog) (w := w) hs hm).mp ⟨es.toList[j], List.getElem_mem hj, pj⟩
  dsimp only
  refine wpAny_pure (wpAny_pure ?_)
  have e : s = { s with heap := s.heap } := by cases s; rfl
  rw [e]
  refine h _ s.heap (Heap.SameBut.refl S s.heap) ?_
  unfold addK
  rw [if_pos hin]
  exact hS
 | none =>
  have hout : k ∉ ks := fun z => by
   obtain ⟨e, he, q⟩ := (uZ (prog := prog) (w := w) hs hm).mpr z
   have := List.findIdx?_eq_none_iff.mp hr e he
   rw [q] at this
   cases this
  dsimp only
  have hperm := layNew_perm t es ((PySem.strKind prog w).hash k) (.str k tk)
  have hfits := layNew_fits t es ((PySem.strKind prog w).hash k) (.str k tk)
  have hled := wK t es ((PySem.strKind prog w).hash k) (.str k tk)
  generalize layNew t es ((PySem.strKind prog w).hash k) (.str k tk) = L at hperm hfits hled ⊢
  obtain ⟨es1, t1, wd, gave⟩ := L
  dsimp only at hperm hfits hled ⊢
  rw [Array.toList_push] at hperm
  have el1 : ElemsOf (PySem.strKind prog w) es1.toList := (hel.push hkey hsc).perm hperm
  have eK : addK ks k = k :: ks := by unfold addK; rw [if_neg hout]
  obtain ⟨s1, m1⟩ := ky hperm (ks := k :: ks) (fun e he => by
   rcases List.mem_append.mp he with he | he
   · exact hs e he
   · rw [List.mem_singleton.mp he]; exact ⟨k, tk, rfl⟩) (by
   rw [List.map_append]
   exact (hm.append_right _).trans (List.perm_append_singleton k ks))
  have z1 : es1.size = ks.length + 1 := by have := m1.length_eq; simpa using this
  have hb1 : es1.size < scanBound := by rw [z1]; unfold scanBound; omega
  refine wpAny_bind (gv _ ?_)
  have tail : ∀ t2 : SetTable, t2.fits es1.size = true → t2.led = (!byT w) → t2.plain = false → wpAny (model prog w) A (do
   storeSet S es1 t2
   if (!wd && t2.tooFull) = true then do
    (match (relayAll t2 es1 (SetTable.grown es1.size)).2.2 with | true => rule "set.scan.the-table-gave-way" | false => pure ())
    storeSet S (relayAll t2 es1 (SetTable.grown es1.size)).1 (relayAll t2 es1 (SetTable.grown es1.size)).2.1
    pure (some true)
    else pure (some true)) (fun a s' => wpAny (model prog w) A (match a with | some added => pure added | none => setAddHashedIn S (.str k tk) ((PySem.strKind prog w).hash k) 99999) Q E s') E s := by
   intro t2 f2 l2 p2
   refine wpAny_bind (wpAny_storeSet_of ho hd ?_ (fits_of_scanBound hb1))
   have S1 : SetS prog w (s.heap.update S (Obj.putSet es1 t2)) S (addK ks k) := by
    rw [eK]
    exact qr ho hex hd f2 (by simp; omega) l2 p2 el1 s1 m1
   have sb1 := Heap.SameBut.update s.heap S (Obj.putSet es1 t2)
   split
   · have hp2 := relayAll_perm t2 es1 (SetTable.grown es1.size)
     have hf2 := relayAll_fits t2 es1 (SetTable.grown es1.size)
     obtain ⟨q1, q2⟩ := qp t2 es1 (SetTable.grown es1.size) p2
     generalize relayAll t2 es1 (SetTable.grown es1.size) = L2 at hp2 hf2 q1 q2 ⊢
     obtain ⟨es2, t3, g2⟩ := L2
     dsimp only at hp2 hf2 q1 q2 ⊢
     obtain ⟨s2, m2⟩ := ky hp2 s1 m1
     have z2 : es2.size = es1.size := by rw [← Array.length_toList, hp2.length_eq, Array.length_toList]
     have ho1 := Heap.get?_update_self (Obj.putSet es1 t2) ho (by rw [putSet_of es1 t2 hd]; rfl)
     rw [putSet_of es1 t2 hd] at ho1
     refine wpAny_bind (gv _ (wpAny_bind (wpAny_storeSet_of ho1 rfl ?_ (fits_of_scanBound (by rw [z2]; exact hb1)))))
     refine wpAny_pure (wpAny_pure (h _ _ (sb1.trans (Heap.SameBut.update _ S _)) ?_))
     rw [eK]
     exact qr ho1 hex rfl hf2 (by simp; omega) (q1.trans l2) q2 (el1.perm hp2) s2 m2
   · exact wpAny_pure (wpAny_pure (h _ _ sb1 S1))
  split
  · rename_i hpl
    refine wpAny_bind ?_
    rw [hashByValue_scannable 8 hsc]
    refine wpAny_pure ?_
    exact tail _ (SetTable.fits_plain_off hfits) (hled.trans hl) rfl
  · rename_i hpl
    refine wpAny_bind (wpAny_pure ?_)
    exact tail _ hfits (hled.trans hl) (by simpa using hpl)
end
section
variable {prog : Program} {w : World} {A : Around} {R : Result → Shared → Prop} {I : Addr} {fp wr : List Addr} {G : Array GenState → Array GenState → Prop} {n : Nat} {P : Nat → Value → Prop} {St : Nat → Shared → Prop}
theorem SetS.moved {h h' : Heap} {S : Addr} {ks : List Str} (x : SetS prog w h S ks) (hS : ∀ o, h.get? S = some o → h'.get? S = some o) : SetS prog w h' S ks := by
 obtain ⟨o, es, ep, t, ho, r⟩ := x
 exact ⟨o, es, ep, t, hS _ ho, r⟩
theorem zG (W : WalksS prog w A.in1 I fp wr G n P St) (S : Addr) (hSf : S ∉ fp) (key : Nat → Str) (hval : ∀ i v, P i v → ∃ tk, v = .str (key i) tk) (hn : n ≤ 59) :
 ∀ (k i : Nat) (s : Shared), n - i = k → i ≤ n → St i s → SetS prog w s.heap S (ddk ((List.range i).map key)) →
  (∀ s', Moved (S :: wr) G s s' → SetS prog w s'.heap S (ddk ((List.range n).map key)) → R (.ok (.ret .none)) s') →
  codeAny (model prog w) A (.builtin "set.update.loop" ⟨[.ref S, .ref I], []⟩) R s := by
 have hSw : S ∉ wr := fun h => hSf (W.sub _ h)
 have hsub : ∀ b ∈ wr, b ∈ S :: wr := fun b hb => List.mem_cons_of_mem _ hb
 intro k
 induction k with
 | zero =>
  intro i s hk hi hst hS hR
  have hin : i = n := by omega
  subst hin
  refine codeAny_builtin F.entry_set_update_loop ?_
  rw [Around.under_plainId F.plain_set_update_loop _]
  show wpAny _ A.in1 (pyNext (.ref I) >>= _) _ _ s
  refine wpAny_bind (W.done s _ _ hst fun s' hm => ?_)
  show wpAny _ A.in1 (ret Value.none) _ _ s'
  exact wpAny_pure (hR s' (hm.mono hsub) (hS.moved fun o ho => hm.heap S _ hSw ho))
 | succ k ih =>
  intro i s hk hi hst hS hR
  have hlt : i < n := by omega
  refine codeAny_builtin F.entry_set_update_loop ?_
  rw [Around.under_plainId F.plain_set_update_loop _]
  show wpAny _ A.in1 (pyNext (.ref I) >>= _) _ _ s
  refine wpAny_bind (W.item i s _ _ hlt hst fun v s' hP hst' hm => ?_)
  obtain ⟨tk, rfl⟩ := hval i v hP
  have hS' : SetS prog w s'.heap S (ddk ((List.range i).map key)) := hS.moved fun o ho => hm.heap S _ hSw ho
  show wpAny _ A.in1 (holding [Value.str (key i) tk] (setAdd S (.str (key i) tk)) >>= _) _ _ s'
  refine wpAny_bind (wpAny_holding ?_)
  unfold setAdd
  refine wpAny_holding ?_
  refine wpAny_bind ((PySem.strKind prog w).pyHash (strKind_is prog w (key i) tk) ?_)
  have estep : ddk ((List.range (i + 1)).map key) = addK (ddk ((List.range i).map key)) (key i) := by
   unfold ddk
   rw [List.range_succ, List.map_append, List.foldl_append]
   rfl
  have hle : (ddk ((List.range i).map key)).length ≤ i := by
   have := ddk_le ((List.range i).map key)
   simpa using this
  refine D8 (s := { s' with toks := s'.toks + 1 }) hS' (by omega) fun bb h' hsb hS2 => ?_
  rw [← estep] at hS2
  refine wpAny_pure ⟨plainId_quiet F.plain_set_update_loop _, ih (i + 1) _ (by omega) hlt (W.frame _ s' _ _ hst' (by simp) fun b hb o e => ?_) hS2 fun s'' hm'' hS'' => ?_⟩
  · rw [hsb.2 b (fun h : b = S => hSf (by rw [← h]; exact hb))]; exact e
  · refine hR s'' (Moved.trans W.gtrans ((hm.mono hsub).then_heap (by simp) fun b o hb e => ?_) hm'') hS''
    rw [hsb.2 b (fun h : b = S => hb (by rw [h]; exact List.mem_cons_self))]; exact e
end
section
variable {prog : Program} {w : World} {A : Around} {E : Value → Shared → Prop} {s : Shared}
theorem mY {h : Heap} {S : Addr} (e : h.get? S = some (cV (!byT w))) : SetS prog w h S [] :=
 ⟨_, #[], 0, _, e, ⟨rfl, rfl, rfl⟩, rfl, rfl, by simp, rfl, fun z => absurd rfl z, fun e he => by simp at he, fun e he => by simp at he, .refl _⟩
theorem qs (a : Value) {Q₁ : Value → Shared → Prop} (h : Q₁ (.ref s.heap.objs.size) { s with heap := s.heap.push (cV (!byT w)) }) : codeAny (model prog w) A (.call (.builtin "set.__new__") ⟨[.type "set", a], []⟩) (wants Q₁ E) s := by
 refine codeAny_of_tree ?_; show wpAny _ A.in1 (do checkBuiltinCall "set.__new__" ⟨[.type "set", a], []⟩; again (.builtin "set.__new__" ⟨[.type "set", a], []⟩)) _ _ s
 refine wpAny_bind (wpAny_of_eq (F.newCall_set_1 a) (wpAny_pure ⟨plainId_quiet F.plain_set_new _, codeAny_builtin F.entry_set_new ?_⟩)); rw [Around.under_plainId F.plain_set_new _]
 unfold Builtin.«set.__new__» Builtin.Frozenset.newClass; have hsub := sub_set_self; obtain ⟨hp, g, d, tk, os⟩ := s
 dsimp only; wp_walk; refine wpAny_askSetting (wpAny_pure ?_)
 dsimp only; simp only [newObj]; exact wpAny_bind (wpAny_alloc (wpAny_pure (wpAny_pure h)))
theorem wL {l : Addr} {items : Array Value} {key : Nat → Str} {R : Result → Shared → Prop} (hh : A.handled = none) (hl : s.heap.IsList l items)
 (hk : ∀ (i : Nat) (v : Value), items[i]? = some v → ∃ tk, v = Value.str (key i) tk) (hn : items.size ≤ 59)
 (hR : ∀ (h' : Heap) (tk : Nat), SetS prog w h' s.heap.objs.size (ddk ((List.range items.size).map key)) → (∀ b o, b < s.heap.objs.size → s.heap.get? b = some o → h'.get? b = some o) → R (.ok (.ret .none)) { s with heap := h', toks := tk }) :
 codeAny (model prog w) A (.call (.builtin "set.__init__") ⟨[.ref s.heap.objs.size, .ref l], []⟩) R { s with heap := s.heap.push (cV (!byT w)) } := by
 have hS : (s.heap.push (cV (!byT w))).get? s.heap.objs.size = some (cV (!byT w)) := Heap.get?_push_size _ rfl
 have hT : Shared.TypeIs { s with heap := s.heap.push (cV (!byT w)) } (.ref s.heap.objs.size) "set" := ⟨_, hS, rfl⟩
 refine codeAny_call_builtin F.called_set.init.plain F.entry_set_init (check_set_init_1 hT ?_)
 obtain ⟨ol, hol, hcl, nl, hdl⟩ := hl
 obtain ⟨ocls, odict, odata, oslots⟩ := ol
 simp only at hcl hdl
 subst hcl; subst hdl
 have hol' : (s.heap.push (cV (!byT w))).get? l = some { cls := .type "list", dict := odict, data := .seq items nl, slots := oslots } := Heap.get?_push_of_some _ hol
 have s1 := F.sub_list_set
 have s2 := F.sub_list_frozenset
 have s3 : (Value.type "list" == Value.type "dict") = false := by decide
 have hl1 : (s.heap.push (cV (!byT w))).IsList l items := ⟨_, hol', rfl, nl, rfl⟩
 unfold Builtin.«set.__init__» noKeywords Builtin.Frozenset.updateFrom
 generalize hPI : pyIter = PI
 wp_walk
 subst hPI
 refine wpAny_pyIter_list hl1 (wpAny_bind (wpAny_runValue ?_))
 have hlS : l < s.heap.objs.size := Heap.lt_size hol
 have hneI : l ≠ (s.heap.push (cV (!byT w))).objs.size := by rw [Heap.size_push]; exact Nat.ne_of_lt (Nat.lt_succ_of_lt hlS)
 have hSf : s.heap.objs.size ∉ [(s.heap.push (cV (!byT w))).objs.size, l] := by
  rw [Heap.size_push]
  simp only [List.mem_cons, List.not_mem_nil, or_false, not_or]
  exact ⟨Nat.ne_of_lt (Nat.lt_succ_self _), Nat.ne_of_gt hlS⟩
 refine zG ((Walks.list (by simp [hh]) _ l hneI items).toS) s.heap.objs.size hSf key hk hn (items.size - 0) 0 _ (by omega) (Nat.zero_le _) ⟨⟨_, Heap.get?_push_size _ rfl, rfl, rfl⟩, (hl1.push _)⟩ ?_ ?_
 · exact mY (Heap.get?_push_of_some _ hS)
 · intro s' hm hS'
   obtain ⟨h', g', d', tk', os'⟩ := s'
   have eg : g' = s.gens := hm.gens
   have ed : d' = s.drawn := hm.drawn
   have eo : os' = s.os := hm.os
   subst eg; subst ed; subst eo
   show wpAny _ _ _ _ _ _
   refine wpAny_pure ?_
   show wpAny _ _ (ret Value.none) _ _ _
   refine wpAny_pure (hR h' tk' hS' fun b o hb e => ?_)
   have hb1 : b ≠ s.heap.objs.size := Nat.ne_of_lt hb
   have hb2 : b ≠ (s.heap.push (cV (!byT w))).objs.size := by rw [Heap.size_push]; exact Nat.ne_of_lt (Nat.lt_succ_of_lt hb)
   exact hm.heap b o (by simp only [List.mem_cons, List.not_mem_nil, or_false, not_or]; exact ⟨hb1, hb2⟩) (Heap.get?_push_of_some _ (Heap.get?_push_of_some _ e))
theorem call_set_L2 {l : Addr} {items : Array Value} {key : Nat → Str} {Q : Value → Shared → Prop} (hh : A.handled = none) (hl : s.heap.IsList l items)
 (hk : ∀ (i : Nat) (v : Value), items[i]? = some v → ∃ tk, v = Value.str (key i) tk) (hn : items.size ≤ 59)
 (h : ∀ (h' : Heap) (tk : Nat), SetS prog w h' s.heap.objs.size (ddk ((List.range items.size).map key)) → (∀ b o, b < s.heap.objs.size → s.heap.get? b = some o → h'.get? b = some o) → Q (.ref s.heap.objs.size) { s with heap := h', toks := tk }) :
 wpAny (model prog w) A (call (.type "set") [.ref l]) Q E s := by
 obtain ⟨c, tl, hmro⟩ := F.called_set.mro
 have hmade := F.called_set.made
 have hsub := F.called_set.sub
 refine wpAny_call (codeAny_of_tree ?_)
 show wpAny _ _ (callAny (.type "set") _) _ _ _
 refine wpAny_pure ⟨Code.quiet_builtin _ (by decide +kernel), codeAny_builtin F.entry_type_call ?_⟩
 rw [Around.under_plain (weight_type_call_type "set" [.ref l] []) rfl]
 have h1 := F.called_set.notType
 have h2 := F.called_set.canCreate
 have hct := F.typeCall_set_1 (.ref l)
 repeat (any_goals (first | assumption | wp_step))
 refine codeAny_mono (qs (.ref l) (E := E) (Q₁ := fun obj s₁ => obj = .ref s.heap.objs.size ∧ s₁ = { s with heap := s.heap.push (cV (!byT w)) }) ⟨rfl, rfl⟩) fun r s₁ hr => ?_
 cases r with
 | error e => exact hr
 | ok fl =>
  cases fl with
  | ret obj =>
   obtain ⟨rfl, rfl⟩ := hr
   have hT : Shared.TypeIs { s with heap := s.heap.push (cV (!byT w)) } (.ref s.heap.objs.size) "set" := ⟨_, Heap.get?_push_size _ rfl, rfl⟩
   have hli := F.called_set.init.lookup
   have hbi := F.called_set.init.bind (.ref s.heap.objs.size)
   repeat (any_goals (first | assumption | wp_step))
   refine codeAny_mono (wL (R := wants (fun r s₂ => r = .none ∧ ∃ h' tk, s₂ = { s with heap := h', toks := tk } ∧ SetS prog w h' s.heap.objs.size (ddk ((List.range items.size).map key)) ∧
    (∀ b o, b < s.heap.objs.size → s.heap.get? b = some o → h'.get? b = some o)) E) (by simp [hh]) hl hk hn fun h' tk q1 q2 => ⟨rfl, h', tk, rfl, q1, q2⟩) fun r₂ s₂ hr₂ => ?_
   cases r₂ with
   | error e => exact hr₂
   | ok fl₂ =>
    cases fl₂ with
    | ret r =>
     obtain ⟨rfl, h', tk, rfl, hS', hk'⟩ := hr₂
     repeat (any_goals (first | assumption | wp_step))
     exact h _ _ hS' hk'
    | _ => exact hr₂.elim
  | _ => exact hr.elim
theorem wM {l : Addr} {items : Array Value} {key : Nat → Str} {R : Result → Shared → Prop} (hh : A.handled = none) (hl : s.heap.IsTuple l items)
 (hk : ∀ (i : Nat) (v : Value), items[i]? = some v → ∃ tk, v = Value.str (key i) tk) (hn : items.size ≤ 59)
 (hR : ∀ (h' : Heap) (tk : Nat), SetS prog w h' s.heap.objs.size (ddk ((List.range items.size).map key)) → (∀ b o, b < s.heap.objs.size → s.heap.get? b = some o → h'.get? b = some o) → R (.ok (.ret .none)) { s with heap := h', toks := tk }) :
 codeAny (model prog w) A (.call (.builtin "set.__init__") ⟨[.ref s.heap.objs.size, .ref l], []⟩) R { s with heap := s.heap.push (cV (!byT w)) } := by
 have hS : (s.heap.push (cV (!byT w))).get? s.heap.objs.size = some (cV (!byT w)) := Heap.get?_push_size _ rfl
 have hT : Shared.TypeIs { s with heap := s.heap.push (cV (!byT w)) } (.ref s.heap.objs.size) "set" := ⟨_, hS, rfl⟩
 refine codeAny_call_builtin F.called_set.init.plain F.entry_set_init (check_set_init_1 hT ?_)
 obtain ⟨ol, hol, hcl, nl, hdl⟩ := hl
 obtain ⟨ocls, odict, odata, oslots⟩ := ol
 simp only at hcl hdl
 subst hcl; subst hdl
 have hol' : (s.heap.push (cV (!byT w))).get? l = some { cls := .type "tuple", dict := odict, data := .seq items nl, slots := oslots } := Heap.get?_push_of_some _ hol
 have s1 := F.sub_tuple_set
 have s2 := F.sub_tuple_frozenset
 have s3 : (Value.type "tuple" == Value.type "dict") = false := by decide
 have hl1 : (s.heap.push (cV (!byT w))).IsTuple l items := ⟨_, hol', rfl, nl, rfl⟩
 unfold Builtin.«set.__init__» noKeywords Builtin.Frozenset.updateFrom
 generalize hPI : pyIter = PI
 wp_walk
 subst hPI
 refine wpAny_pyIter_tuple hl1 (wpAny_bind (wpAny_runValue ?_))
 have hlS : l < s.heap.objs.size := Heap.lt_size hol
 have hneI : l ≠ (s.heap.push (cV (!byT w))).objs.size := by rw [Heap.size_push]; exact Nat.ne_of_lt (Nat.lt_succ_of_lt hlS)
 have hSf : s.heap.objs.size ∉ [(s.heap.push (cV (!byT w))).objs.size, l] := by
  rw [Heap.size_push]
  simp only [List.mem_cons, List.not_mem_nil, or_false, not_or]
  exact ⟨Nat.ne_of_lt (Nat.lt_succ_self _), Nat.ne_of_gt hlS⟩
 refine zG ((Walks.tuple (by simp [hh]) _ l hneI items).toS) s.heap.objs.size hSf key hk hn (items.size - 0) 0 _ (by omega) (Nat.zero_le _) ⟨⟨_, Heap.get?_push_size _ rfl, rfl, rfl⟩, (hl1.push _)⟩ ?_ ?_
 · exact mY (Heap.get?_push_of_some _ hS)
 · intro s' hm hS'
   obtain ⟨h', g', d', tk', os'⟩ := s'
   have eg : g' = s.gens := hm.gens
   have ed : d' = s.drawn := hm.drawn
   have eo : os' = s.os := hm.os
   subst eg; subst ed; subst eo
   show wpAny _ _ _ _ _ _
   refine wpAny_pure ?_
   show wpAny _ _ (ret Value.none) _ _ _
   refine wpAny_pure (hR h' tk' hS' fun b o hb e => ?_)
   have hb1 : b ≠ s.heap.objs.size := Nat.ne_of_lt hb
   have hb2 : b ≠ (s.heap.push (cV (!byT w))).objs.size := by rw [Heap.size_push]; exact Nat.ne_of_lt (Nat.lt_succ_of_lt hb)
   exact hm.heap b o (by simp only [List.mem_cons, List.not_mem_nil, or_false, not_or]; exact ⟨hb1, hb2⟩) (Heap.get?_push_of_some _ (Heap.get?_push_of_some _ e))
theorem call_set_T2 {l : Addr} {items : Array Value} {key : Nat → Str} {Q : Value → Shared → Prop} (hh : A.handled = none) (hl : s.heap.IsTuple l items)
 (hk : ∀ (i : Nat) (v : Value), items[i]? = some v → ∃ tk, v = Value.str (key i) tk) (hn : items.size ≤ 59)
 (h : ∀ (h' : Heap) (tk : Nat), SetS prog w h' s.heap.objs.size (ddk ((List.range items.size).map key)) → (∀ b o, b < s.heap.objs.size → s.heap.get? b = some o → h'.get? b = some o) → Q (.ref s.heap.objs.size) { s with heap := h', toks := tk }) :
 wpAny (model prog w) A (call (.type "set") [.ref l]) Q E s := by
 obtain ⟨c, tl, hmro⟩ := F.called_set.mro
 have hmade := F.called_set.made
 have hsub := F.called_set.sub
 refine wpAny_call (codeAny_of_tree ?_)
 show wpAny _ _ (callAny (.type "set") _) _ _ _
 refine wpAny_pure ⟨Code.quiet_builtin _ (by decide +kernel), codeAny_builtin F.entry_type_call ?_⟩
 rw [Around.under_plain (weight_type_call_type "set" [.ref l] []) rfl]
 have h1 := F.called_set.notType
 have h2 := F.called_set.canCreate
 have hct := F.typeCall_set_1 (.ref l)
 repeat (any_goals (first | assumption | wp_step))
 refine codeAny_mono (qs (.ref l) (E := E) (Q₁ := fun obj s₁ => obj = .ref s.heap.objs.size ∧ s₁ = { s with heap := s.heap.push (cV (!byT w)) }) ⟨rfl, rfl⟩) fun r s₁ hr => ?_
 cases r with
 | error e => exact hr
 | ok fl =>
  cases fl with
  | ret obj =>
   obtain ⟨rfl, rfl⟩ := hr
   have hT : Shared.TypeIs { s with heap := s.heap.push (cV (!byT w)) } (.ref s.heap.objs.size) "set" := ⟨_, Heap.get?_push_size _ rfl, rfl⟩
   have hli := F.called_set.init.lookup
   have hbi := F.called_set.init.bind (.ref s.heap.objs.size)
   repeat (any_goals (first | assumption | wp_step))
   refine codeAny_mono (wM (R := wants (fun r s₂ => r = .none ∧ ∃ h' tk, s₂ = { s with heap := h', toks := tk } ∧ SetS prog w h' s.heap.objs.size (ddk ((List.range items.size).map key)) ∧
    (∀ b o, b < s.heap.objs.size → s.heap.get? b = some o → h'.get? b = some o)) E) (by simp [hh]) hl hk hn fun h' tk q1 q2 => ⟨rfl, h', tk, rfl, q1, q2⟩) fun r₂ s₂ hr₂ => ?_
   cases r₂ with
   | error e => exact hr₂
   | ok fl₂ =>
    cases fl₂ with
    | ret r =>
     obtain ⟨rfl, h', tk, rfl, hS', hk'⟩ := hr₂
     repeat (any_goals (first | assumption | wp_step))
     exact h _ _ hS' hk'
    | _ => exact hr₂.elim
  | _ => exact hr.elim
end
theorem sl_sin : Slot "set_iterator" "__next__" "set_iterator.__next__" :=
 .of (n := "__next__") (owner := "set_iterator") (by rw [typeLookup_type, builtinLookup_eq_fast]; kernel_rfl) (by decide +kernel) (by decide +kernel) (by decide +kernel) (by first | exact .inl (by decide +kernel) | exact .inr (by decide +kernel)) (by rw [isSubtype_type]; kernel_rfl)
theorem mZ : entryFor table "set_iterator.__next__" = some Builtin.«set_iterator.__next__» := entryFor_of_tree (by kernel_rfl)
theorem m3 (a : Value) : argsOk "set_iterator.__next__" ⟨[a], []⟩ := by unfold argsOk; kernel_rfl
theorem Cs : entryFor table "set.__iter__" = some Builtin.«frozenset.__iter__» :=
 entryFor_alias (id' := "frozenset.__iter__") (by kernel_rfl) rfl (by decide +kernel) (by kernel_rfl)
theorem ff {α : Type} : ∀ (l : List α) (i : Nat) (h : i < l.length), (l[i] :: l.eraseIdx i).Perm l
 | x :: l, 0, _ => .refl _
 | x :: l, i + 1, h => by
  have ih := ff l i (by simpa using h)
  exact (List.Perm.swap ..).trans (ih.cons x)
theorem kz {α : Type} (next : Nat → Nat) : ∀ (n k : Nat) (left : List α) (out : Array α), left.length = n → (pickOrder.go next n k left out).toList.Perm (out.toList ++ left)
 | 0, k, left, out, h => by
  have : left = [] := List.length_eq_zero_iff.mp h
  subst this
  unfold pickOrder.go
  simp
 | n + 1, k, left, out, h => by
  unfold pickOrder.go
  have hlt : next k % left.length < left.length := Nat.mod_lt _ (by omega)
  rw [List.getElem?_eq_getElem hlt]
  dsimp only
  refine (kz next n (k + 1) _ _ (by rw [List.length_eraseIdx_of_lt hlt]; omega)).trans ?_
  rw [Array.toList_push, List.append_assoc]
  exact List.Perm.append_left _ (ff _ _ hlt)
section
variable {prog : Program} {w : World} {A : Around} {E : Value → Shared → Prop}
theorem qt {src : Source} {n : Nat} {s : Shared} {Q : Nat → Shared → Prop} (hn : n ≠ 0) (h : ∀ i d, i < n → Q i { s with drawn := d }) : wpAny (model prog w) A (choose src n) Q E s := fun _ _ _ => ⟨hn, h _ _ (Nat.mod_lt _ (Nat.pos_of_ne_zero hn))⟩
theorem qu {α : Type} : ∀ (n : Nat) (xs : List α) (s : Shared) (Q : List α → Shared → Prop), xs.length = n → (∀ ys d, ys.Perm xs → Q ys { s with drawn := d }) → wpAny (model prog w) A (drawOrder n xs) Q E s
 | 0, xs, s, Q, hl, h => by
  have : xs = [] := List.length_eq_zero_iff.mp hl
  subst this
  unfold drawOrder
  have e : s = { s with drawn := s.drawn } := by cases s; rfl
  refine wpAny_pure ?_
  rw [e]
  exact h [] s.drawn (.refl _)
 | n + 1, [], s, Q, hl, h => by simp at hl
 | n + 1, x :: xs, s, Q, hl, h => by
  unfold drawOrder
  refine wpAny_bind (qt (by simp) fun i d hi => ?_)
  rw [List.getElem?_eq_getElem hi]
  dsimp only
  refine wpAny_bind (qu n ((x :: xs).eraseIdx i) _ _ (by rw [List.length_eraseIdx_of_lt hi]; simp at hl ⊢; omega) fun ys d2 hp => ?_)
  refine wpAny_pure (h _ d2 ?_)
  exact (hp.cons _).trans (ff _ _ hi)
variable {s : Shared}
structure Rd (w : World) (h : Heap) (S : Addr) (es : Array (Int × Value)) (ep : Nat) (t : SetTable) : Prop where
 o : ∃ o, h.get? S = some o ∧ o.ExactSet ∧ o.data = .set es ep t
 f : t.fits es.size = true
 l : t.led = (!byT w)
 p : es.size ≠ 0 → t.plain = false
theorem Rd.moved {h h' : Heap} {S : Addr} {es : Array (Int × Value)} {ep : Nat} {t : SetTable} (r : Rd w h S es ep t) (k : ∀ o, h.get? S = some o → h'.get? S = some o) : Rd w h' S es ep t := by
 obtain ⟨⟨o, ho, hr⟩, h1, h2, h3⟩ := r
 exact ⟨⟨o, k _ ho, hr⟩, h1, h2, h3⟩
abbrev sIt (first : Value) (i : Nat) (S : Addr) (n ep : Nat) : Obj := { cls := .type "set_iterator", dict := none, data := .fields #[first, rawInt i, .ref S, rawInt n, rawInt ep], slots := #[] }
theorem m4 (f : Value) (i : Nat) (S : Addr) (n ep : Nat) : sIt f (i + 1) S n ep = { cls := .type "set_iterator", dict := none, data := .fields #[f, .int ((i : Int) + 1) 0, .ref S, .int n 0, .int ep 0], slots := #[] } := by simp [rawInt]
theorem tN {I S : Addr} {es : Array (Int × Value)} {ep i slot : Nat} {t : SetTable} {Q : Option Value → Shared → Prop} (r : Rd w s.heap S es ep t) (hI : s.heap.get? I = some (sIt (rawInt slot) i S es.size ep))
 {x : Value} {nx : Nat} (hN : ∀ (R : Option (Value × Nat) → Shared → Prop) (E' : Value → Shared → Prop), R (some (x, nx)) s → wpAny (model prog w) A.in1 (setNext S slot i ep) R E' s)
 (hQ : ∀ h', h'.get? I = some (sIt (rawInt nx) (i + 1) S es.size ep) → Heap.SameBut I s.heap h' → Q (some x) { s with heap := h' }) : wpAny (model prog w) A (pyNext (.ref I)) Q E s := by
 have ty : s.TypeIs (.ref I) "set_iterator" := ⟨_, hI, rfl⟩
 obtain ⟨o, ho, hex, hd⟩ := r.o
 unfold pyNext
 refine wpAny_bind (wpAny_attempt (wpAny_callSpecial?_slot (name := Str.ofString "__next__") ty sl_sin (wpAny_call_entry sl_sin ty mZ ?_ (m3 _))))
 unfold Builtin.«set_iterator.__next__»
 refine wpAny_bind (m := slotArgs _ _ _) (wpAny_of_eq (a := (Value.ref I, [])) (by rfl) ?_)
 refine wpAny_bind (wpAny_fieldsOf hI rfl ?_)
 dsimp only [rawInt, Array.toList]
 refine wpAny_bind (wpAny_setEntries_of ho hd r.f ?_)
 rw [if_neg (by simp)]
 refine wpAny_bind (m := pure _) (wpAny_pure ?_)
 dsimp only
 refine wpAny_bind (hN _ _ ?_)
 dsimp only
 refine wpAny_bind (wpAny_setField_rec hI (by simp) fun h1 g1 b1 => ?_)
 refine wpAny_bind (wpAny_setField_rec g1 (by simp) fun h2 g2 b2 => ?_)
 exact wpAny_pure ⟨x, rfl, wpAny_pure (hQ _ (by rw [m4]; simpa [rawInt] using g2) (b1.trans b2))⟩
theorem kA {I S : Addr} {es : Array (Int × Value)} {ep i slot : Nat} {t : SetTable} {Q : Option Value → Shared → Prop} (hh : A.handled = none) (r : Rd w s.heap S es ep t) (hI : s.heap.get? I = some (sIt (rawInt slot) i S es.size ep))
 (hN : ∀ (R : Option (Value × Nat) → Shared → Prop) (E' : Value → Shared → Prop), R none s → wpAny (model prog w) A.in1 (setNext S slot i ep) R E' s)
 (hQ : ∀ h', Heap.ExtBut I s.heap h' → Q none { s with heap := h' }) : wpAny (model prog w) A (pyNext (.ref I)) Q E s := by
 have ty : s.TypeIs (.ref I) "set_iterator" := ⟨_, hI, rfl⟩
 obtain ⟨o, ho, hex, hd⟩ := r.o
 unfold pyNext
 refine wpAny_bind (wpAny_attempt (wpAny_callSpecial?_slot (name := Str.ofString "__next__") ty sl_sin (wpAny_call_entry sl_sin ty mZ ?_ (m3 _))))
 unfold Builtin.«set_iterator.__next__»
 refine wpAny_bind (m := slotArgs _ _ _) (wpAny_of_eq (a := (Value.ref I, [])) (by rfl) ?_)
 refine wpAny_bind (wpAny_fieldsOf hI rfl ?_)
 dsimp only [rawInt, Array.toList]
 refine wpAny_bind (wpAny_setEntries_of ho hd r.f ?_)
 rw [if_neg (by simp)]
 refine wpAny_bind (m := pure _) (wpAny_pure ?_)
 dsimp only
 refine wpAny_bind (hN _ _ ?_)
 dsimp only
 refine wpAny_bind (wpAny_setField_rec hI (by simp) fun h1 g1 b1 => ?_)
 refine wpAny_bind ?_
 simp only [newExc, newTuple]
 refine wpAny_bind (wpAny_newObj_type ?_ (by size_fits))
 refine wpAny_bind (m := firstArgMember _ _) (wpAny_of_eq (a := Value.none) (by first | rfl | (simp only [firstArgMember]; rfl)) ?_)
 refine wpAny_newObj_type ?_ (by size_fits)
 simp only [raiseNew]
 refine wpAny_bind (wpAny_handled ?_)
 rw [show A.in1.handled = none from hh]
 refine wpAny_bind (wpAny_pure (wpAny_throw ?_))
 refine wpAny_bind (wpAny_isInstance (T := "StopIteration") (b := true) ⟨_, Heap.get?_push_size _ rfl, rfl⟩ isSubtype_stop ?_)
 exact wpAny_pure (hQ _ ((b1.extBut.push _).push _))
theorem tP {I S T : Addr} {es : Array (Int × Value)} {ep i : Nat} {t : SetTable} {pl : Array Value} {Q : Option Value → Shared → Prop} (r : Rd w s.heap S es ep t) (hI : s.heap.get? I = some (sIt (.ref T) i S es.size ep)) (hT : s.heap.IsTuple T pl)
 {k : Nat} {h0 : Int} {x : Value} (hp : pl[i]? = some (rawInt k)) (hk : es[k]? = some (h0, x))
 (hQ : ∀ h', h'.get? I = some (sIt (.ref T) (i + 1) S es.size ep) → Heap.SameBut I s.heap h' → Q (some x) { s with heap := h' }) : wpAny (model prog w) A (pyNext (.ref I)) Q E s := by
 have ty : s.TypeIs (.ref I) "set_iterator" := ⟨_, hI, rfl⟩
 obtain ⟨o, ho, hex, hd⟩ := r.o
 obtain ⟨oT, hoT, _, nT, hdT⟩ := hT
 unfold pyNext
 refine wpAny_bind (wpAny_attempt (wpAny_callSpecial?_slot (name := Str.ofString "__next__") ty sl_sin (wpAny_call_entry sl_sin ty mZ ?_ (m3 _))))
 unfold Builtin.«set_iterator.__next__»
 refine wpAny_bind (m := slotArgs _ _ _) (wpAny_of_eq (a := (Value.ref I, [])) (by rfl) ?_)
 refine wpAny_bind (wpAny_fieldsOf hI rfl ?_)
 dsimp only [rawInt, Array.toList]
 refine wpAny_bind (wpAny_setEntries_of ho hd r.f ?_)
 rw [if_neg (by simp)]
 refine wpAny_bind (m := pure _) (wpAny_pure ?_)
 dsimp only
 refine wpAny_bind (wpAny_seqItems hoT hdT ?_)
 dsimp only
 rw [Int.toNat_natCast, hp]
 dsimp only [rawInt]
 refine wpAny_bind ?_
 unfold setNextDrawn
 refine wpAny_bind (wpAny_setState_of ho hd r.f ?_)
 dsimp only
 rw [if_neg (by simp)]
 refine wpAny_bind (m := pure _) (wpAny_pure ?_)
 rw [Int.toNat_natCast, hk]
 dsimp only
 refine wpAny_pure ?_
 refine wpAny_bind (wpAny_setField_rec hI (by simp) fun h1 g1 b1 => ?_)
 exact wpAny_pure ⟨x, rfl, wpAny_pure (hQ _ (by rw [m4]; simpa [rawInt] using g1) b1)⟩
theorem kB {I S T : Addr} {es : Array (Int × Value)} {ep i : Nat} {t : SetTable} {pl : Array Value} {Q : Option Value → Shared → Prop} (hh : A.handled = none) (r : Rd w s.heap S es ep t) (hI : s.heap.get? I = some (sIt (.ref T) i S es.size ep)) (hT : s.heap.IsTuple T pl)
 (hp : pl[i]? = none) (hQ : ∀ h', Heap.ExtBut I s.heap h' → Q none { s with heap := h' }) : wpAny (model prog w) A (pyNext (.ref I)) Q E s := by
 have ty : s.TypeIs (.ref I) "set_iterator" := ⟨_, hI, rfl⟩
 obtain ⟨o, ho, hex, hd⟩ := r.o
 obtain ⟨oT, hoT, _, nT, hdT⟩ := hT
 unfold pyNext
 refine wpAny_bind (wpAny_attempt (wpAny_callSpecial?_slot (name := Str.ofString "__next__") ty sl_sin (wpAny_call_entry sl_sin ty mZ ?_ (m3 _))))
 unfold Builtin.«set_iterator.__next__»
 refine wpAny_bind (m := slotArgs _ _ _) (wpAny_of_eq (a := (Value.ref I, [])) (by rfl) ?_)
 refine wpAny_bind (wpAny_fieldsOf hI rfl ?_)
 dsimp only [rawInt, Array.toList]
 refine wpAny_bind (wpAny_setEntries_of ho hd r.f ?_)
 rw [if_neg (by simp)]
 refine wpAny_bind (m := pure _) (wpAny_pure ?_)
 dsimp only
 refine wpAny_bind (wpAny_seqItems hoT hdT ?_)
 dsimp only
 rw [Int.toNat_natCast, hp]
 dsimp only
 refine wpAny_bind (wpAny_setField_rec hI (by simp) fun h1 g1 b1 => ?_)
 refine wpAny_bind (wpAny_setField_rec g1 (by simp) fun h2 g2 b2 => ?_)
 refine wpAny_bind ?_
 simp only [newExc, newTuple]
 refine wpAny_bind (wpAny_newObj_type ?_ (by size_fits))
 refine wpAny_bind (m := firstArgMember _ _) (wpAny_of_eq (a := Value.none) (by first | rfl | (simp only [firstArgMember]; rfl)) ?_)
 refine wpAny_newObj_type ?_ (by size_fits)
 simp only [raiseNew]
 refine wpAny_bind (wpAny_handled ?_)
 rw [show A.in1.handled = none from hh]
 refine wpAny_bind (wpAny_pure (wpAny_throw ?_))
 refine wpAny_bind (wpAny_isInstance (T := "StopIteration") (b := true) ⟨_, Heap.get?_push_size _ rfl, rfl⟩ isSubtype_stop ?_)
 exact wpAny_pure (hQ _ (((b1.trans b2).extBut.push _).push _))
theorem u0 {S : Addr} {es : Array (Int × Value)} {ep i slot : Nat} {t : SetTable} {R : Option (Value × Nat) → Shared → Prop} (r : Rd w s.heap S es ep t) (hb : byT w = true)
 (hR : R (((pickOrder (w.params.setOrder S ep) es)[i]?).map fun e => (e.2, slot)) s) : wpAny (model prog w) A (setNext S slot i ep) R E s := by
 obtain ⟨o, ho, hex, hd⟩ := r.o
 unfold setNext setsByText setWalk setsByText
 refine wpAny_bind (wpAny_setState_of ho hd r.f ?_)
 dsimp only
 refine wpAny_bind (wpAny_bind (wpAny_askSetting (wpAny_pure ?_)))
 dsimp only
 rw [if_pos (show (model prog w).w.params.followText "set-order" = true from hb), if_neg (by simp)]
 refine wpAny_bind (wpAny_bind (wpAny_setState_of ho hd r.f ?_))
 dsimp only
 refine wpAny_bind (wpAny_bind (wpAny_askSetting (wpAny_pure ?_)))
 dsimp only
 rw [if_pos (show (model prog w).w.params.followText "set-order" = true from hb)]
 refine wpAny_bind (wpAny_askSetting (wpAny_pure ?_))
 exact wpAny_pure hR
theorem u1 {S : Addr} {es : Array (Int × Value)} {ep i slot : Nat} {t : SetTable} {R : Option (Value × Nat) → Shared → Prop} (r : Rd w s.heap S es ep t) (hb : byT w = false) (hn : es.size ≤ 1)
 (hR : R (match es[SetTable.below t.place slot]?, t.place[SetTable.below t.place slot]? with | some (_, x), some j => some (x, j + 1) | _, _ => none) s) : wpAny (model prog w) A (setNext S slot i ep) R E s := by
 obtain ⟨o, ho, hex, hd⟩ := r.o
 have hl : t.led = true := by rw [r.l, hb]; rfl
 unfold setNext setsByText
 refine wpAny_bind (wpAny_setState_of ho hd r.f ?_)
 dsimp only
 refine wpAny_bind (wpAny_bind (wpAny_askSetting (wpAny_pure ?_)))
 dsimp only
 rw [if_neg (show ¬ ((model prog w).w.params.followText "set-order" = true) from by rw [show (model prog w).w.params.followText "set-order" = false from hb]; simp)]
 split
 · rename_i hc
   have hc' : (!t.plain && decide (es.size > 1)) = true := hc
   simp at hc'
   omega
 · refine wpAny_bind (wpAny_of_eq (a := ()) ?_ (wpAny_pure hR))
   show (if (!t.led && !es.isEmpty) = true then _ else pure ()) = pure ()
   rw [hl]
   rfl
end
theorem u3 : Slot "set_iterator" "__iter__" "set_iterator.__iter__" :=
 .of (n := "__iter__") (owner := "set_iterator") (by rw [typeLookup_type, builtinLookup_eq_fast]; kernel_rfl) (by decide +kernel) (by decide +kernel) (by decide +kernel) (by first | exact .inl (by decide +kernel) | exact .inr (by decide +kernel)) (by rw [isSubtype_type]; kernel_rfl)
theorem zH : entryFor table "set_iterator.__iter__" = some Builtin.«dict_keyiterator.__iter__» :=
 entryFor_alias (id' := "dict_keyiterator.__iter__") (by kernel_rfl) (by first | rfl | decide +kernel | (unfold String.splitOn; simp +decide [String.splitOnAux])) (by decide +kernel) (by kernel_rfl)
theorem zI (a : Value) : argsOk "set_iterator.__iter__" ⟨[a], []⟩ := by unfold argsOk; kernel_rfl
theorem qv {α : Type} {xs : Array α} (h : xs.size = 1) : ∃ a, xs = #[a] := by
 obtain ⟨l⟩ := xs
 match l, h with
 | [a], _ => exact ⟨a, rfl⟩
section
variable {prog : Program} {w : World} {A : Around} {E : Value → Shared → Prop} {s : Shared}
theorem kG {I : Addr} {Q : Value → Shared → Prop} (hT : s.TypeIs (.ref I) "set_iterator") (h : Q (.ref I) s) : wpAny (model prog w) A (pyIter (.ref I)) Q E s := by
 refine wpAny_pyIter_slot hT u3 (wpAny_call_entry u3 hT zH ?_ (zI _))
 show wpAny _ _ (ret (.ref I)) _ _ s
 exact wpAny_pure ⟨_, rfl, "set_iterator", _, hT, sl_sin.lookup, h⟩
theorem kH (hh : A.handled = none) (I S : Addr) (hne : S ≠ I) (es : Array (Int × Value)) (ep : Nat) (t : SetTable) (vs : List Value) (sl : Nat → Nat) (hl : vs.length = es.size)
 (hN : ∀ (i : Nat) (v : Value) (s : Shared) (R : Option (Value × Nat) → Shared → Prop) (E' : Value → Shared → Prop), Rd w s.heap S es ep t → vs[i]? = some v → R (some (v, sl (i + 1))) s → wpAny (model prog w) A.in1 (setNext S (sl i) i ep) R E' s)
 (hE : ∀ (s : Shared) (R : Option (Value × Nat) → Shared → Prop) (E' : Value → Shared → Prop), Rd w s.heap S es ep t → R none s → wpAny (model prog w) A.in1 (setNext S (sl vs.length) vs.length ep) R E' s) :
 Walks prog w A I [I, S] [I] vs.length (fun i v => vs[i]? = some v) (fun i h => h.get? I = some (sIt (rawInt (sl i)) i S es.size ep) ∧ Rd w h S es ep t) where
 sub := fun b hb => by simp at hb; simp [hb]
 frame := fun _ _ _ st hk => ⟨hk I (by simp) _ st.1, st.2.moved fun o e => hk S (by simp) o e⟩
 item := fun i s Q E hi st hQ => by
  have hv : vs[i]? = some vs[i] := by simp [hi]
  refine tN st.2 st.1 (x := vs[i]) (nx := sl (i + 1)) (fun R E' hR => hN i _ s R E' st.2 hv hR) fun h' g b => ?_
  exact hQ _ h' s.toks hv ⟨g, st.2.moved fun o e => b.extBut S o hne e⟩ fun b' o hb e => b.extBut b' o (fun h => hb (by simp [h])) e
 done := fun s Q E st hQ => kA hh st.2 st.1 (fun R E' hR => hE s R E' st.2 hR) fun h' he' => hQ h' s.toks fun b o hb e => he' b o (fun h => hb (by simp [h])) e
 self := fun _ _ _ _ st hQ => kG ⟨_, st.1, rfl⟩ hQ
theorem qw (hh : A.handled = none) (I S T : Addr) (hne : S ≠ I) (hT : T ≠ I) (es : Array (Int × Value)) (ep : Nat) (t : SetTable) (ks : List Nat) (vs : List Value) (hl : vs.length = ks.length)
 (hk : ∀ (i : Nat) (k : Nat) (v : Value), ks[i]? = some k → vs[i]? = some v → ∃ h0, es[k]? = some (h0, v)) :
 Walks prog w A I [I, S, T] [I] vs.length (fun i v => vs[i]? = some v) (fun i h => h.get? I = some (sIt (.ref T) i S es.size ep) ∧ Rd w h S es ep t ∧ h.IsTuple T (ks.map fun (i : Nat) => rawInt i).toArray) where
 sub := fun b hb => by simp at hb; simp [hb]
 frame := fun _ _ _ st hk => ⟨hk I (by simp) _ st.1, st.2.1.moved fun o e => hk S (by simp) o e, st.2.2.at fun o e => hk T (by simp) o e⟩
 item := fun i s Q E hi st hQ => by
  have hv : vs[i]? = some vs[i] := by simp [hi]
  have hki : ks[i]? = some (ks[i]'(by omega)) := by simp [show i < ks.length by omega]
  obtain ⟨h0, e0⟩ := hk i _ _ hki hv
  refine tP st.2.1 st.1 st.2.2 (x := vs[i]) (k := ks[i]'(by omega)) (h0 := h0) (by simp [show i < ks.length by omega]) e0 fun h' g b => ?_
  exact hQ _ h' s.toks hv ⟨g, st.2.1.moved fun o e => b.extBut S o hne e, st.2.2.extBut b.extBut hT⟩ fun b' o hb e => b.extBut b' o (fun h => hb (by simp [h])) e
 done := fun s Q E st hQ => kB hh st.2.1 st.1 st.2.2 (by simp [hl]) fun h' he' => hQ h' s.toks fun b o hb e => he' b o (fun h => hb (by simp [h])) e
 self := fun _ _ _ _ st hQ => kG ⟨_, st.1, rfl⟩ hQ
structure Wk (prog : Program) (w : World) (S I : Addr) (h : Heap) (h' : Heap) (es : Array (Int × Value)) (vs : List Value) (fp : List Addr) (St : Nat → Heap → Prop) : Prop where
 W : ∀ A : Around, A.handled = none → Walks prog w A I fp [I] vs.length (fun i v => vs[i]? = some v) St
 st : St 0 h'
 pm : vs.Perm (es.toList.map (·.2))
 up : ∀ b o, h.get? b = some o → h'.get? b = some o
 nw : h.objs.size ≤ I
 fp : ∀ b ∈ fp, (b = S ∨ h.objs.size ≤ b) ∧ b < h'.objs.size
theorem tQ {S : Addr} {es : Array (Int × Value)} {ep : Nat} {t : SetTable} {Q : Value → Shared → Prop} (r : Rd w s.heap S es ep t) (hn60 : es.size ≤ 60)
 (hQ : ∀ (I : Addr) (h' : Heap) (d : Drawn) (vs : List Value) (fp : List Addr) (St : Nat → Heap → Prop), Wk prog w S I s.heap h' es vs fp St → Q (.ref I) { s with heap := h', drawn := d }) : wpAny (model prog w) A (pyIter (.ref S)) Q E s := by
 obtain ⟨o, ho, hex, hd⟩ := id r.o
 have hT : s.TypeIs (.ref S) "set" := ⟨o, ho, hex.1⟩
 have hS : S < s.heap.objs.size := Heap.lt_size ho
 have hsz : t.place.size = es.size := by have := r.f; unfold SetTable.fits at this; simp at this; exact this.1
 refine wpAny_pyIter_slot hT F.slot_set_iter (wpAny_call_entry F.slot_set_iter hT Cs ?_ (F.args_set_iter_1 _))
 unfold Builtin.«frozenset.__iter__»
 refine wpAny_bind (m := Builtin.Frozenset.slot0 _ _) (wpAny_of_eq (a := S) (by rfl) ?_)
 refine wpAny_bind ?_
 unfold Builtin.Frozenset.sizeOf
 refine wpAny_bind (wpAny_setEntries_of ho hd r.f (wpAny_pure ?_))
 refine wpAny_bind ?_
 unfold setDrawn setsByText
 refine wpAny_bind (wpAny_setState_of ho hd r.f ?_)
 dsimp only
 refine wpAny_bind (wpAny_bind (wpAny_askSetting (wpAny_pure (wpAny_pure ?_))))
 dsimp only
 split
 · rename_i hc
   have hc' : (!byT w && (!t.plain && decide (es.size > 1))) = true := hc
   simp at hc'
   refine wpAny_bind (qu _ _ _ _ (by simp) fun ks d hp => ?_)
   have z : ks.length ≤ sizeLine := by
    have h1 := hp.length_eq
    rw [List.length_range] at h1
    have : sizeLine = 16777216 := by decide
    omega
   unfold newTuple
   refine wpAny_bind (wpAny_newObj_type ?_ (by simpa [sizeOk] using z))
   have ho1 : (s.heap.push { cls := .type "tuple", data := .seq (ks.map fun (i : Nat) => rawInt i).toArray }).get? S = some o := Heap.get?_push_of_some _ ho
   refine wpAny_bind ?_
   unfold setEpoch
   refine wpAny_bind (wpAny_setState_of ho1 hd r.f (wpAny_pure ?_))
   refine wpAny_bind (wpAny_newObj_type (wpAny_pure ⟨_, rfl, "set_iterator", _, ⟨_, Heap.get?_push_size _ rfl, rfl⟩, sl_sin.lookup, ?_⟩))
   have hlt : ∀ k ∈ ks, k < es.size := fun k hk => by simpa using hp.mem_iff.mp hk
   refine hQ _ _ d (ks.map fun k => (es.toList.map (·.2)).getD k .none) [(s.heap.push { cls := .type "tuple", data := .seq (ks.map fun (i : Nat) => rawInt i).toArray }).objs.size, S, s.heap.objs.size] _
    ⟨fun A' h' => qw h' _ S s.heap.objs.size (by rw [Heap.size_push]; exact Nat.ne_of_lt (Nat.lt_succ_of_lt hS)) (by rw [Heap.size_push]; exact Nat.ne_of_lt (Nat.lt_succ_self _)) es ep t ks _ (by simp) (fun i k v e1 e2 => ?_), ⟨Heap.get?_push_size _ rfl, r.moved (fun o' e => Heap.get?_push_of_some _ (Heap.get?_push_of_some _ e)), ?_⟩, ?_, fun b o' e => Heap.get?_push_of_some _ (Heap.get?_push_of_some _ e), by rw [Heap.size_push]; exact Nat.le_succ _, ?_⟩
   · have hk := hlt k (List.mem_of_getElem? e1)
     simp [e1] at e2
     refine ⟨es[k].1, ?_⟩
     rw [← e2]
     simp [hk]
   · exact ⟨_, Heap.get?_push_of_some _ (Heap.get?_push_size _ rfl), rfl, 0, rfl⟩
   · have e : (List.range es.size).map (fun k => (es.toList.map (·.2)).getD k .none) = es.toList.map (·.2) := FD.range_getD _ _ _ (by simp)
     exact (hp.map _).trans (by rw [e])
   · intro b hb
     rw [Heap.size_push, Heap.size_push]
     rw [Heap.size_push] at hb
     simp only [List.mem_cons, List.not_mem_nil, or_false] at hb
     rcases hb with hb | hb | hb
     · subst hb
       exact ⟨.inr (Nat.le_succ _), Nat.lt_succ_self _⟩
     · subst hb
       exact ⟨.inl rfl, Nat.lt_succ_of_lt (Nat.lt_succ_of_lt hS)⟩
     · subst hb
       exact ⟨.inr (Nat.le_refl _), Nat.lt_succ_of_lt (Nat.lt_succ_self _)⟩
 · rename_i hc
   have hc' : ¬ ((!byT w && (!t.plain && decide (es.size > 1))) = true) := hc
   refine wpAny_bind (wpAny_pure ?_)
   refine wpAny_bind ?_
   unfold setEpoch
   refine wpAny_bind (wpAny_setState_of ho hd r.f (wpAny_pure ?_))
   refine wpAny_bind (wpAny_newObj_type (wpAny_pure ⟨_, rfl, "set_iterator", _, ⟨_, Heap.get?_push_size _ rfl, rfl⟩, sl_sin.lookup, ?_⟩))
   have fin : ∀ (vs : List Value) (sl : Nat → Nat), sl 0 = 0 → vs.Perm (es.toList.map (·.2)) → (∀ A : Around, A.handled = none → Walks prog w A s.heap.objs.size [s.heap.objs.size, S] [s.heap.objs.size] vs.length (fun i v => vs[i]? = some v) (fun i h => h.get? s.heap.objs.size = some (sIt (rawInt (sl i)) i S es.size ep) ∧ Rd w h S es ep t)) →
    Q (.ref s.heap.objs.size) { s with heap := s.heap.push (sIt (rawInt 0) 0 S es.size ep) } := by
    intro vs sl h0 hp hW
    have e : ({ s with heap := s.heap.push (sIt (rawInt 0) 0 S es.size ep) } : Shared) = { s with heap := s.heap.push (sIt (rawInt 0) 0 S es.size ep), drawn := s.drawn } := rfl
    rw [e]
    refine hQ _ _ s.drawn vs _ _ ⟨hW, ⟨by rw [h0]; exact Heap.get?_push_size _ rfl, r.moved (fun o' e => Heap.get?_push_of_some _ e)⟩, hp, fun b o' e => Heap.get?_push_of_some _ e, Nat.le_refl _, fun b hb => ?_⟩
    rw [Heap.size_push]
    simp only [List.mem_cons, List.not_mem_nil, or_false] at hb
    rcases hb with hb | hb
    · subst hb
      exact ⟨.inr (Nat.le_refl _), Nat.lt_succ_self _⟩
    · subst hb
      exact ⟨.inl rfl, Nat.lt_succ_of_lt hS⟩
   by_cases hb : byT w = true
   · have hpm : (pickOrder (w.params.setOrder S ep) es).toList.Perm es.toList := by
      have := kz (w.params.setOrder S ep) es.size 0 es.toList #[] (by simp)
      simpa [pickOrder] using this
     have hlen : (pickOrder (w.params.setOrder S ep) es).size = es.size := by simpa using hpm.length_eq
     refine fin ((pickOrder (w.params.setOrder S ep) es).toList.map (·.2)) (fun _ => 0) rfl (hpm.map _) fun A' h' => kH h' _ S (Nat.ne_of_lt hS) es ep t _ _ (by simp [hlen]) (fun i v s1 R E' r1 e1 hR => u0 r1 hb ?_) (fun s1 R E' r1 hR => u0 r1 hb ?_)
     · simp at e1
       obtain ⟨a, e1⟩ := e1
       rw [e1]
       exact hR
     · rw [show (pickOrder (w.params.setOrder S ep) es)[(List.map (·.2) (pickOrder (w.params.setOrder S ep) es).toList).length]? = none by simp]
       exact hR
   · have hb' : byT w = false := by simpa using hb
     have hn1 : es.size ≤ 1 := by
      rw [hb'] at hc'
      by_cases z : es.size = 0
      · omega
      · rw [r.p z] at hc'
        simp at hc'
        exact hc'
     refine fin (es.toList.map (·.2)) (fun i => if i = 0 then 0 else t.place.getD 0 0 + 1) rfl (.refl _) fun A' h' => kH h' _ S (Nat.ne_of_lt hS) es ep t _ _ (by simp) (fun i v s1 R E' r1 e1 hR => u1 r1 hb' hn1 ?_) (fun s1 R E' r1 hR => u1 r1 hb' hn1 ?_)
     · have hi : i = 0 := by
        have := List.getElem?_eq_some_iff.mp e1
        obtain ⟨q, _⟩ := this
        simp at q
        omega
       subst hi
       obtain ⟨a, ea⟩ : ∃ a, es = #[a] := by
        obtain ⟨l⟩ := es
        have := (List.getElem?_eq_some_iff.mp e1).1
        match l, this, hn1 with
        | [a], _, _ => exact ⟨a, rfl⟩
        | _ :: _ :: _, _, h => simp at h
       subst ea
       obtain ⟨j, ej⟩ : ∃ j, t.place = #[j] := qv hsz
       simp at e1
       subst e1
       rw [ej] at hR ⊢
       simpa [below, below.go] using hR
     · by_cases z : es.size = 0
       · have e0 : es = #[] := Array.eq_empty_of_size_eq_zero z
         subst e0
         simpa using hR
       · obtain ⟨a, ea⟩ := qv (xs := es) (by omega : es.size = 1)
         subst ea
         obtain ⟨j, ej⟩ : ∃ j, t.place = #[j] := qv hsz
         rw [ej]
         simpa [below, below.go] using hR
end
section
variable {prog : Program} {w : World} {A : Around} {E : Value → Shared → Prop} {s : Shared}
theorem lP {S : Addr} {es : Array (Int × Value)} {ep : Nat} {t : SetTable} {Q : List Value → Shared → Prop} (hh : A.handled = none) (r : Rd w s.heap S es ep t) (hn60 : es.size ≤ 60)
 (hQ : ∀ (h' : Heap) (d : Drawn) (tk : Nat) (vs : List Value), vs.Perm (es.toList.map (·.2)) → s.heap.objs.size < h'.objs.size → (∀ b o, s.heap.get? b = some o → h'.get? b = some o) → Q vs { s with heap := h', drawn := d, toks := tk }) : wpAny (model prog w) A (collect (.ref S)) Q E s := by
 obtain ⟨o, ho, hex, hd⟩ := id r.o
 have hS : S < s.heap.objs.size := Heap.lt_size ho
 unfold collect
 refine wpAny_bind (wpAny_runValue (codeAny_builtin F.entry_proto_collect ?_))
 rw [Around.under_plainId F.plain_proto_collect _]
 show wpAny _ A.in1 (newList [] >>= fun l => again (.builtin "list.__iadd__" ⟨[l, .ref S], []⟩)) _ _ s
 refine wpAny_bind (wpAny_newObj_type ?_)
 refine wpAny_pure ⟨plainId_quiet F.plain_list_iadd _, codeAny_builtin F.entry_list_iadd ?_⟩
 rw [Around.under_plainId F.plain_list_iadd _]
 show wpAny _ A.in1 (Builtin.List.listExtendWith (.ref s.heap.objs.size) (.ref S) (.ref s.heap.objs.size)) _ _ _
 unfold Builtin.List.listExtendWith
 generalize hH : s.heap.push { cls := .type "list", data := .seq ([] : List Value).toArray } = H
 have hHs : H.objs.size = s.heap.objs.size + 1 := by rw [← hH, Heap.size_push]
 have up0 : ∀ b ob, s.heap.get? b = some ob → H.get? b = some ob := fun b ob e => hH ▸ Heap.get?_push_of_some _ e
 have hL : H.get? s.heap.objs.size = some { cls := .type "list", data := .seq ([] : List Value).toArray } := hH ▸ Heap.get?_push_size _ rfl
 have ty : Shared.TypeIs { s with heap := H } (.ref S) "set" := ⟨o, up0 _ _ ho, hex.1⟩
 refine wpAny_bind (wpAny_typeOf (T := "set") ty ?_)
 have h1 : Builtin.List.listSameRef (.ref s.heap.objs.size) (.ref S) = false := by simp [Builtin.List.listSameRef]; exact (Nat.ne_of_lt hS).symm
 have h2 : (Value.type "set" == Value.type "list") = false := by decide
 have h3 : (Value.type "set" == Value.type "tuple") = false := by decide
 simp only [h1, h2, h3, Bool.or_false, Bool.false_eq_true, if_false]
 refine wpAny_bind (tQ (s := { s with heap := H }) (r.moved fun o e => up0 _ _ e) hn60 fun I h' d vs fp St K => ?_)
 have ty' : Shared.TypeIs { s with heap := h', drawn := d } (.ref S) "set" := ⟨o, K.up _ _ (up0 _ _ ho), hex.1⟩
 refine wpAny_bind (wpAny_holding ?_)
 unfold Builtin.List.listLengthHint
 refine wpAny_bind (wpAny_specialOf ty' F.slot_set_len.lookup ?_)
 wp_delta
 refine wpAny_bind (wpAny_isInstance (T := "set") (b := true) ty' (by rw [isSubtype_type]; kernel_rfl) ?_)
 show wpAny _ A.in1 (typeOf (Value.ref S) >>= _) _ _ _
 refine wpAny_bind (wpAny_typeOf (T := "set") ty' ?_)
 refine wpAny_pure ?_
 show wpAny _ A.in1 (rule "list.extend.makes-room" >>= fun _ => Builtin.List.listTouch (.ref s.heap.objs.size) >>= fun _ =>
  again (.builtin "list.extend.loop" ⟨[.ref s.heap.objs.size, .ref I, .ref s.heap.objs.size], []⟩)) _ _ _
 refine wpAny_bind (wpAny_rule ?_)
 have hS1 : h'.get? s.heap.objs.size = some { cls := .type "list", data := .seq ([] : List Value).toArray } := K.up _ _ hL
 refine wpAny_bind ?_
 show wpAny _ A.in1 (updateSeq s.heap.objs.size (·.push .none) >>= fun _ => updateSeq s.heap.objs.size (·.pop)) _ _ _
 refine wpAny_bind (wpAny_updateSeq hS1 rfl ?_)
 have hS2 := Heap.get?_update_self (Obj.mapSeq (·.push Value.none)) hS1 rfl
 refine wpAny_updateSeq hS2 rfl ?_
 have hS3 := Heap.get?_update_self (Obj.mapSeq (·.pop)) hS2 rfl
 have oth : ∀ b ob, b ≠ s.heap.objs.size → h'.get? b = some ob → ((h'.update s.heap.objs.size (Obj.mapSeq (·.push Value.none))).update s.heap.objs.size (Obj.mapSeq (·.pop))).get? b = some ob :=
  fun b ob hb e => (Heap.get?_update_other _ _ (Ne.symm hb)).trans ((Heap.get?_update_other _ _ (Ne.symm hb)).trans e)
 have hSf : s.heap.objs.size ∉ fp := fun hm => by
  rcases (K.fp _ hm).1 with e | e
  · exact absurd e (Nat.ne_of_lt hS).symm
  · rw [hHs] at e
    exact absurd e (Nat.not_le.mpr (Nat.lt_succ_self _))
 have W := K.W A.in1 hh
 have hvn : vs.length ≤ sizeLine := by
  have h1 := K.pm.length_eq
  simp at h1
  have : sizeLine = 16777216 := by decide
  omega
 refine wpAny_pure ⟨plainId_quiet F.plain_extend_loop _, codeAny_extend_loopS W.toS hvn _ hSf _ vs.length 0 _ _ _ rfl (Nat.zero_le _)
  (W.frame 0 h' _ K.st fun b hb ob e => oth b ob (fun h => hSf (h ▸ hb)) e) hS3 (ItemsOf.nil _) fun s' acc' c' hm hS' hacc => ?_⟩
 show wpAny _ A (load s.heap.objs.size >>= _) _ _ s'
 refine wpAny_bind (wpAny_load hS' ?_)
 have eacc : acc'.toList = vs := by
  apply List.ext_getElem
  · simpa using hacc.1
  · intro i h1 h2
    have : vs[i]? = some acc'[i] := hacc.2 i acc'[i] (by simp)
    rw [List.getElem?_eq_getElem h2] at this
    simpa using this.symm
 show wpAny _ A (pure acc'.toList) _ _ s'
 rw [eacc]
 obtain ⟨h2', g', d', tk', os'⟩ := s'
 have eg : g' = s.gens := hm.gens
 have ed : d' = d := hm.drawn
 have eo : os' = s.os := hm.os
 subst eg; subst ed; subst eo
 refine wpAny_pure (hQ h2' d' tk' vs K.pm (Heap.lt_size hS') fun b ob e => hm.heap b ob (fun hb => ?_) (oth b ob (Nat.ne_of_lt (Heap.lt_size e)) (K.up _ _ (up0 _ _ e))))
 have hlt := Heap.lt_size e
 rcases List.mem_cons.mp hb with h | h
 · exact absurd hlt (h ▸ Nat.lt_irrefl _)
 · rw [List.mem_singleton.mp h] at hlt
   have := K.nw
   rw [hHs] at this
   exact absurd (Nat.lt_trans hlt this) (Nat.lt_irrefl _)
theorem SetS.rd {h : Heap} {S : Addr} {ks : List Str} (x : SetS prog w h S ks) : ∃ es ep t, Rd w h S es ep t ∧ es.size ≤ 60 ∧ (∀ e ∈ es.toList, ∃ x t, e.2 = .str x t) ∧ (es.toList.map fun e => strOf e.2).Perm ks := by
 obtain ⟨o, es, ep, t, ho, hex, hd, hf, hk, hl, hp, hel, hs, hm⟩ := x
 refine ⟨es, ep, t, ⟨⟨o, ho, hex, hd⟩, hf, hl, hp⟩, ?_, hs, hm⟩
 have := hm.length_eq
 simp at this
 omega
theorem qz : ∀ {vs : List Value}, (∀ v ∈ vs, ∃ x t, v = .str x t) → StrsAre vs (vs.map strOf)
 | [], _ => .nil
 | v :: vs, h => by
  obtain ⟨x, t, rfl⟩ := h v List.mem_cons_self
  exact .cons x t (qz fun v hv => h v (List.mem_cons_of_mem _ hv))
theorem sorted_set {S : Addr} {ks : List Str} {Q : Value → Shared → Prop} (hh : A.handled = none) (x : SetS prog w s.heap S ks)
 (h : ∀ (l : Addr) (h' : Heap) (d : Drawn) (tk : Nat) (out : List Value) (e : Nat), StrsAre out (FD.isortB FD.leS ks) → h'.get? l = some (seqObj "list" out.toArray e) → s.heap.objs.size ≤ l → (∀ b o, s.heap.get? b = some o → h'.get? b = some o) → Q (.ref l) { s with heap := h', drawn := d, toks := tk }) :
 wpAny (model prog w) A (call (.builtin "sorted") [.ref S]) Q E s := by
 obtain ⟨es, ep, t, r, h60, hs, hm⟩ := x.rd
 refine Calls.call_function_entry kind_sorted plain_sorted entry_sorted (args_sorted1 _) ?_
 unfold Builtin.«sorted»
 refine wpAny_bind (m := checkCount "sorted" 1 1 _) (wpAny_pure ?_)
 refine wpAny_bind (lP hh r h60 fun h1 d tk vs hp hgr up => ?_)
 have hvs : ∀ v ∈ vs, ∃ x t, v = Value.str x t := fun v hv => by
  obtain ⟨e, he, rfl⟩ := List.mem_map.mp (hp.mem_iff.mp hv)
  exact hs e he
 have hS := qz hvs
 have hlen : vs.length < 64 := by
  have := hp.length_eq
  simp at this
  omega
 have hpk : (vs.map strOf).Perm ks := by
  have := hp.map strOf
  rw [List.map_map] at this
  exact this.trans hm
 refine wpAny_bind (wpAny_newList ?_ (FD.line64 hlen))
 have hoL : (h1.push (seqObj "list" vs.toArray 0)).get? h1.objs.size = some (seqObj "list" vs.toArray 0) := Heap.get?_push_size _ rfl
 refine wpAny_bind (wpAny_holding (wpAny_call_entry slot_list_sort ⟨_, hoL, rfl⟩ entry_list_sort (list_sort_treeK strKind_oneLt hoL hS.keysOf (fun v₁ v₂ rest e => keyKind_strs (by rw [← e]; exact hS)) hlen fun st' hp' hs' => ⟨_, rfl, ?_⟩) (args_list_sort _)))
 obtain ⟨ss', a1, a2, a3⟩ := sorted_out_str hS hp' hs'
 have es' : ss' = FD.isortB FD.leS ks := FD.sorted_uniq FD.ordS ((a2.trans hpk).trans (FD.isortB_perm FD.leS ks).symm) (FD.sortedS_pw _ a3) (FD.isortB_sorted FD.ordS ks)
 subst es'
 obtain ⟨e, he⟩ := sortedHeap_at (out := (arrOf st').map (·.2)) hoL
 refine wpAny_pure ⟨_, rfl, h _ _ d tk _ e a1 (by rw [Array.toArray_toList]; exact he) (Nat.le_of_lt hgr) fun b ob q => ?_⟩
 · have q1 := up _ _ q
   have hlt := Heap.lt_size q1
   rw [sortedHeap_old (Nat.ne_of_lt hlt) (by rw [Heap.size_push]; exact Nat.lt_succ_of_lt hlt), Heap.get?_push_ne _ _ _ (Nat.ne_of_lt hlt)]
   exact q1
end
end ST
namespace FD
open PySem PySem.Spec PyProof.Rows L2
def dO : List Dv → Option (Rs Dv)
 | [.lst ds] => match bM ds with
  | some ks => if ks.length ≤ 59 then some (.ok (.lst ((isortB leS (ST.ddk ks)).map Dv.str))) else none
  | none => none
 | [.tup ds] => match bM ds with
  | some ks => if ks.length ≤ 59 then some (.ok (.lst ((isortB leS (ST.ddk ks)).map Dv.str))) else none
  | none => none
 | _ => none
theorem qA {X : Cx} {pins : List (Addr × Obj)} {σ : List (Option V)} {H : Hp} {s : Shared} (I : Inv X pins σ H s) (d : Drawn) : Inv X pins σ H { s with drawn := d } := ⟨I.ok, I.os, I.bare, I.base, I.loc, I.cell, I.free, I.freeC, I.pin, I.hok, I.len⟩
theorem jp : ∀ {vs : List Value} {ss : List Str}, StrsAre vs ss → vs.length = ss.length ∧ ∀ (i : Nat) (v : Value), vs[i]? = some v → ∃ tk, v = Value.str (ss.getD i "") tk
 | _, _, .nil => ⟨rfl, fun i v h => by simp at h⟩
 | _, _, .cons x t h => by
  obtain ⟨h1, h2⟩ := jp h
  refine ⟨by simp [h1], fun i v e => ?_⟩
  cases i with
  | zero => simp at e; exact ⟨t, by simp [← e]⟩
  | succ i => obtain ⟨tk, q⟩ := h2 i v (by simpa using e); exact ⟨tk, by simpa using q⟩
section
variable {X : Cx} {p p2 pos pos2 : Pos} {e : Expr} {ga : FnA}
theorem ov (hc : X.calm = true) (hg : Gl X "sorted") (hm : X.mg "sorted" = none) (hg2 : Gl X "set") (hm2 : X.mg "set" = none) (ha : FA X [e] ga)
 (he : starEach [.Call (.Name "set" p2) [e] [] pos2] X.env = (false, eval (.Call (.Name "set" p2) [e] [] pos2) X.env) :: starEach [] X.env := by kernel_rfl) (hpl : (backTo pos (starEach [] X.env)).any (·.1) = false := by kernel_rfl)
 (he2 : starEach [e] X.env = (false, eval e X.env) :: starEach [] X.env := by kernel_rfl) (hpl2 : (backTo pos2 (starEach [] X.env)).any (·.1) = false := by kernel_rfl) :
 FE X (.Call (.Name "sorted" p) [.Call (.Name "set" p2) [e] [] pos2] [] pos) (fB1 dO ga) := ⟨fun pins s σ H Q I ⟨ρ, E, o⟩ => by
 refine wpAny_Call_Name_kw (cW I hg hm (u := .builtin "sorted") (by decide +kernel) ?_ (by decide) (by decide))
 refine PyProof.Rows.callWith_builtin1 ?_ he hpl
 rw [he]
 show wpAny _ _ (spliced ((false, eval (.Call (.Name "set" p2) [e] [] pos2) X.env) :: backTo pos (starEach [] X.env))) _ _ s
 refine Calls.spliced_cons ?_
 refine wpAny_Call_Name_kw (cW I hg2 hm2 (u := .type "set") (by decide +kernel) ?_ (by decide) (by decide))
 refine PyProof.Rows.callWith_type1 (thn (ha.h pos2 pins s σ H _ I ⟨ρ, E, OutA.bind o fun ds vs H1 e1 rs o1 => (show ∃ ds, Reps X.K H1 ds vs ∧ Out X H1 (dO ds) Q from ⟨ds, rs, o1⟩)⟩) fun us s1 ⟨vs, H1, I1, r1, ds, rs, o1⟩ => ?_) he2 hpl2
 have fin : ∀ (ks : List Str) (h' : Heap) (tk : Nat), ks.length ≤ 59 → Out X H1 (some (.ok (.lst ((isortB leS (ST.ddk ks)).map Dv.str)))) Q → ST.SetS X.prog X.w h' s1.heap.objs.size (ST.ddk ks) → (∀ b o, b < s1.heap.objs.size → s1.heap.get? b = some o → h'.get? b = some o) → wpAny (model X.prog X.w) X.A (call (.builtin "sorted") [.ref s1.heap.objs.size]) (EP X pins σ Q) X.xe { s1 with heap := h', toks := tk } := by
  intro ks h' tk hk o1 hS hkp
  refine ST.sorted_set (I1.ok.hd hc) hS fun l h2 d tk2 out e0 a1 a2 a3 a4 => ?_
  have hlt : s1.heap.objs.size ≤ l := by
   obtain ⟨_, _, _, _, q, _⟩ := hS
   exact Nat.le_of_lt (Nat.lt_of_lt_of_le (Heap.lt_size q) a3)
  refine ⟨.ref l, _, qA (I1.laid (h' := h2) (t' := tk2) (o := .lst ((isortB leS (ST.ddk ks)).map V.str)) (fun b ob q => a4 _ _ (hkp b ob (Heap.lt_size q) q)) hlt ?_) d, rfl, o1 _ _ (aj (I1.hok.fresh hlt) _) ⟨l, _, rfl, ai, eZ _ _⟩⟩
  exact ⟨line64 (by rw [List.length_map, (isortB_perm leS _).length_eq]; have := ST.ddk_le ks; omega), out, e0, eY a1, by simpa [seqObj] using a2⟩
 unfold dO at o1
 split at o1
 · rename_i es
   obtain ⟨v, rfl, r⟩ := bx rs
   obtain ⟨l, xs, rfl, hl, rx⟩ := r.lstE
   obtain ⟨u, rfl, ru⟩ := b5 r1
   cases (show u = Value.ref l from ru)
   split at o1
   · rename_i ks hks
     split at o1
     · rename_i hnd
       obtain ⟨z, its, n, rv, hz, eh⟩ := I1.lstM hl
       obtain ⟨q1, q2⟩ := jp (gc hks rx rv)
       have hsz : its.toArray.size = ks.length := by simp [q1]
       refine ST.call_set_L2 (items := its.toArray) (key := fun i => ks.getD i "") (I1.ok.hd hc) ⟨_, eh, rfl, n, rfl⟩ (fun i v hi => q2 i v (by simpa using hi)) (by rw [hsz]; exact hnd) fun h' tk hS hkp => ?_
       refine Calls.spliced_nil ?_
       rw [range_getD ks "" _ hsz] at hS
       exact fin ks h' tk hnd o1 hS hkp
     · exact o1.elim
   · exact o1.elim
 · rename_i es
   obtain ⟨v, rfl, r⟩ := bx rs
   obtain ⟨l, xs, rfl, hl, rx⟩ := r.tupE
   obtain ⟨u, rfl, ru⟩ := b5 r1
   cases (show u = Value.ref l from ru)
   split at o1
   · rename_i ks hks
     split at o1
     · rename_i hnd
       obtain ⟨its, rv, pl, hz⟩ := I1.tuple (SqT.of hl)
       obtain ⟨q1, q2⟩ := jp (gc hks rx rv)
       have hsz : its.toArray.size = ks.length := by simp [q1]
       refine ST.call_set_T2 (items := its.toArray) (key := fun i => ks.getD i "") (I1.ok.hd hc) pl (fun i v hi => q2 i v (by simpa using hi)) (by rw [hsz]; exact hnd) fun h' tk hS hkp => ?_
       refine Calls.spliced_nil ?_
       rw [range_getD ks "" _ hsz] at hS
       exact fin ks h' tk hnd o1 hS hkp
     · exact o1.elim
   · exact o1.elim
 · exact o1.elim⟩
end
end FD
namespace TS
open PySem PyProof.Rows
section logic
variable {M : Model} {A : Around} {E : Value → Shared → Prop} {J : Shared → Prop} {σ α β : Type}
def wpJ (M : Model) (A : Around) (E : Value → Shared → Prop) (J : Shared → Prop) (m : StateT σ Sem α) (Q : α → σ → Prop) (st : σ) : Prop :=
 ∀ s, J s → wpAny M A (m.run st) (fun r s' => J s' ∧ Q r.1 r.2) E s
theorem aR {a : α} {Q : α → σ → Prop} {st : σ} (h : Q a st) : wpJ M A E J (pure a : StateT σ Sem α) Q st := fun s hs => by
 rw [StateT.run_pure]
 exact wpAny_pure ⟨hs, h⟩
theorem az {m : StateT σ Sem α} {f : α → StateT σ Sem β} {Q : β → σ → Prop} {st : σ} (h : wpJ M A E J m (fun a st' => wpJ M A E J (f a) Q st') st) : wpJ M A E J (m >>= f) Q st := fun s hs => by
 rw [StateT.run_bind]
 exact wpAny_bind (wpAny_mono (h s hs) (fun r s' h' => h'.2 s' h'.1) fun _ _ e => e)
theorem kJ {m : StateT σ Sem α} {Q Q' : α → σ → Prop} {st : σ} (h : wpJ M A E J m Q st) (hq : ∀ a st', Q a st' → Q' a st') : wpJ M A E J m Q' st := fun s hs =>
 wpAny_mono (h s hs) (fun r _ h' => ⟨h'.1, hq _ _ h'.2⟩) fun _ _ e => e
theorem ow {Q : σ → σ → Prop} {st : σ} (h : Q st st) : wpJ M A E J (get : StateT σ Sem σ) Q st := fun s hs => by
 rw [StateT.run_get]
 exact wpAny_pure ⟨hs, h⟩
theorem gf {f : σ → σ} {Q : PUnit → σ → Prop} {st : σ} (h : Q ⟨⟩ (f st)) : wpJ M A E J (modify f : StateT σ Sem PUnit) Q st := fun s hs => by
 rw [StateT.run_modify]
 exact wpAny_pure ⟨hs, h⟩
theorem qB {m : Sem α} {Q : α → σ → Prop} {st : σ} (h : ∀ s, J s → wpAny M A m (fun a s' => J s' ∧ Q a st) E s) : wpJ M A E J (liftM m : StateT σ Sem α) Q st := fun s hs => by
 show wpAny M A ((StateT.lift m : StateT σ Sem α).run st) _ E s
 rw [StateT.run_lift]
 exact wpAny_bind (wpAny_mono (h s hs) (fun a s' h' => wpAny_pure h') fun _ _ e => e)
theorem zJ (f : Nat → β → StateT σ Sem (ForInStep β)) (I : Nat → β → σ → Prop) (Q : β → σ → Prop) (b : Nat)
 (step : ∀ i c st, i < b → I i c st → wpJ M A E J (f i c) (fun r st' => match r with | .done c' => Q c' st' | .yield c' => I (i + 1) c' st') st)
 (fin : ∀ c st, I b c st → Q c st) : ∀ (n a : Nat) (c : β) (st : σ), a + n = b → I a c st → wpJ M A E J (forIn (List.range' a n 1) c f) Q st
 | 0, a, c, st, e, h => by
  rw [List.range'_zero, List.forIn_nil]
  have : a = b := by omega
  subst this
  exact aR (fin c st h)
 | n + 1, a, c, st, e, h => by
  rw [List.range'_succ, List.forIn_cons]
  refine az (kJ (step a c st (by omega) h) fun r st' h' => ?_)
  cases r with
  | done c' => exact aR h'
  | yield c' => exact zJ f I Q b step fin n (a + 1) c' st' (by omega) h'
theorem fg {a b : Nat} {f : Nat → β → StateT σ Sem (ForInStep β)} (I : Nat → β → σ → Prop) {Q : β → σ → Prop} (hab : a ≤ b)
 (step : ∀ i c st, i < b → I i c st → wpJ M A E J (f i c) (fun r st' => match r with | .done c' => Q c' st' | .yield c' => I (i + 1) c' st') st)
 (fin : ∀ c st, I b c st → Q c st) {c : β} {st : σ} (h : I a c st) : wpJ M A E J (forIn [a:b] c f) Q st := by
 rw [Std.Legacy.Range.forIn_eq_forIn_range']
 have hsz : ([a:b] : Std.Legacy.Range).size = b - a := by simp [Std.Legacy.Range.size]
 show wpJ M A E J (forIn (List.range' a ([a:b] : Std.Legacy.Range).size 1) c f) Q st
 rw [hsz]
 exact zJ f I Q b step fin (b - a) a c st (by omega) h
end logic
structure Od (blt : Nat → Nat → Bool) : Prop where
 ir : ∀ a, blt a a = false
 tr : ∀ a b c, blt a b = true → blt b c = true → blt a c = true
 nt : ∀ a b c, blt a c = true → blt a b = true ∨ blt b c = true
def Lex (blt : Nat → Nat → Bool) (a b : Nat) : Prop := blt a b = true ∨ (blt b a = false ∧ a < b)
section order
variable {blt : Nat → Nat → Bool}
theorem Od.le (O : Od blt) {a b c : Nat} (h1 : blt b a = false) (h2 : blt c b = false) : blt c a = false := by
 cases h : blt c a with
 | false => rfl
 | true =>
  rcases O.nt _ b _ h with q | q
  · rw [q] at h2; cases h2
  · rw [q] at h1; cases h1
theorem Od.lt_le (O : Od blt) {a b c : Nat} (h1 : blt a b = true) (h2 : blt c b = false) : blt a c = true := by
 rcases O.nt _ c _ h1 with q | q
 · exact q
 · rw [q] at h2; cases h2
theorem Od.le_lt (O : Od blt) {a b c : Nat} (h1 : blt b a = false) (h2 : blt b c = true) : blt a c = true := by
 rcases O.nt _ a _ h2 with q | q
 · rw [q] at h1; cases h1
 · exact q
theorem Od.as (O : Od blt) {a b : Nat} (h : blt a b = true) : blt b a = false := by
 cases h' : blt b a with
 | false => rfl
 | true => have := O.tr _ _ _ h h'; rw [O.ir] at this; cases this
theorem Lex.tr (O : Od blt) {a b c : Nat} (h1 : Lex blt a b) (h2 : Lex blt b c) : Lex blt a c := by
 rcases h1 with h1 | ⟨h1, i1⟩
 · rcases h2 with h2 | ⟨h2, i2⟩
   · exact .inl (O.tr _ _ _ h1 h2)
   · exact .inl (O.lt_le h1 h2)
 · rcases h2 with h2 | ⟨h2, i2⟩
   · exact .inl (O.le_lt h1 h2)
   · exact .inr ⟨O.le h1 h2, by omega⟩
theorem Lex.of_le {a b : Nat} (h : blt b a = false) (i : a < b) : Lex blt a b := .inr ⟨h, i⟩
end order
structure SB (a₀ : Array Keyed) (kd : SortKind) (p : Nat → Nat) (st : SortSt) : Prop where
 sz : (arrOf st).size = a₀.size
 at' : ∀ k, k < a₀.size → (arrOf st)[k]? = a₀[p k]?
 lt : ∀ k, k < a₀.size → p k < a₀.size
 inj : ∀ a b, a < a₀.size → b < a₀.size → p a = p b → a = b
 kind : kindOf st = kd
 failed : failedOf st = none
 pend : pendingOf st = #[]
def mir (p : Nat → Nat) (i j k : Nat) : Nat := if i ≤ k ∧ k < j then p (i + j - 1 - k) else p k
def bub (p : Nat → Nat) (src dst k : Nat) : Nat := if k = dst then p src else if dst < k ∧ k ≤ src then p (k - 1) else p k
section state
variable {a₀ : Array Keyed} {kd : SortKind} {p : Nat → Nat} {st : SortSt}
theorem SB.mirror (B : SB a₀ kd p st) {i j : Nat} (hj : j ≤ a₀.size) : SB a₀ kd (mir p i j) (setArr st (mirror (arrOf st) i j ((j - i) / 2))) where
 sz := (mirror_size _ _ _ _).trans B.sz
 at' := fun k hk => by
  show (PyProof.Rows.mirror (arrOf st) i j ((j - i) / 2))[k]? = _
  rw [getElem?_mirror_all (by rw [B.sz]; exact hj)]
  unfold mir
  split
  · exact B.at' _ (by omega)
  · exact B.at' _ hk
 lt := fun k hk => by
  unfold mir
  split
  · exact B.lt _ (by omega)
  · exact B.lt _ hk
 inj := fun a b ha hb e => by
  unfold mir at e
  split at e <;> split at e
  · have := B.inj _ _ (by omega) (by omega) e; omega
  · have := B.inj _ _ (by omega) hb e; omega
  · have := B.inj _ _ ha (by omega) e; omega
  · exact B.inj _ _ ha hb e
 kind := B.kind
 failed := B.failed
 pend := B.pend
theorem SB.bubble (B : SB a₀ kd p st) {src dst : Nat} (hs : src < a₀.size) (hd : dst ≤ src) : SB a₀ kd (bub p src dst) (setArr st (bubble (arrOf st) src (src - dst))) where
 sz := (bubble_size _ _ _).trans B.sz
 at' := fun k hk => by
  show (PyProof.Rows.bubble (arrOf st) src (src - dst))[k]? = _
  rw [getElem?_bubble (by rw [B.sz]; exact hs) _ (by omega), show src - (src - dst) = dst by omega]
  unfold bub
  split
  · exact B.at' _ hs
  · split
    · exact B.at' _ (by omega)
    · exact B.at' _ hk
 lt := fun k hk => by
  unfold bub
  split
  · exact B.lt _ hs
  · split
    · exact B.lt _ (by omega)
    · exact B.lt _ hk
 inj := fun a b ha hb e => by
  unfold bub at e
  repeat' split at e
  all_goals first
   | omega
   | (have := B.inj _ _ (by omega) (by omega) e; omega)
 kind := B.kind
 failed := B.failed
 pend := B.pend
end state
def Cm (M : Model) (A : Around) (J : Shared → Prop) (a₀ : Array Keyed) (kd : SortKind) (blt : Nat → Nat → Bool) : Prop :=
 ∀ (i j : Nat) (x y : Keyed) (s : Shared) (E' : Value → Shared → Prop), a₀[i]? = some x → a₀[j]? = some y → J s → wpAny M A (keyLt' kd x.1 y.1) (fun b s' => J s' ∧ b = blt i j) E' s
section
variable {M : Model} {A : Around} {E : Value → Shared → Prop} {J : Shared → Prop} {a₀ : Array Keyed} {kd : SortKind} {blt : Nat → Nat → Bool} {p : Nat → Nat} {st : SortSt}
theorem zK {i j : Nat} {Q : Option Bool → SortSt → Prop} (C : Cm M A J a₀ kd blt) (B : SB a₀ kd p st) (hi : i < a₀.size) (hj : j < a₀.size) (h : Q (some (blt (p i) (p j))) st) : wpJ M A E J (ltAt' i j) Q st := by
 have e1 : (arrOf st)[i]? = some (a₀[p i]'(B.lt i hi)) := by rw [B.at' i hi]; simp [B.lt i hi]
 have e2 : (arrOf st)[j]? = some (a₀[p j]'(B.lt j hj)) := by rw [B.at' j hj]; simp [B.lt j hj]
 rw [ltAt'_eq]
 refine az (ow ?_)
 show wpJ M A E J (do let x ← elem' (arrOf st) i; let y ← elem' (arrOf st) j; lt' x y) Q st
 rw [elem'_eq, elem'_eq, e1, e2]
 refine az (aR (az (aR ?_)))
 rw [lt'_eq]
 refine az (ow ?_)
 rw [B.kind]
 refine az (qB fun s hs => wpAny_attempt (wpAny_mono (C (p i) (p j) _ _ s _ (by simp [B.lt i hi]) (by simp [B.lt j hj]) hs) (fun b s' h' => ?_) fun _ _ e => e))
 obtain ⟨h1, rfl⟩ := h'
 exact ⟨h1, aR h⟩
theorem tR {i j : Nat} {Q : Unit → SortSt → Prop} (h : Q () (setArr st (mirror (arrOf st) i j ((j - i) / 2)))) : wpJ M A E J (reverseSlice' i j) Q st := by
 rw [reverseSlice'_eq]; exact gf h
structure Up (blt : Nat → Nat → Bool) (p : Nat → Nat) (n N : Nat) : Prop where
 so : ∀ a b, a < b → b < n → Lex blt (p a) (p b)
 lo : ∀ a, a < n → p a < n
 re : ∀ a, n ≤ a → a < N → p a = a
theorem Up.next (O : Od blt) {n N : Nat} (U : Up blt p n N) (h1 : 1 ≤ n) (hn : n < N) (h : blt (p n) (p (n - 1)) = false) : Up blt p (n + 1) N where
 so := fun a b hab hb => by
  by_cases hbn : b < n
  · exact U.so a b hab hbn
  · have hb' : b = n := by omega
    subst hb'
    have last : Lex blt (p (b - 1)) (p b) := .of_le h (by rw [U.re b (Nat.le_refl _) hn]; exact U.lo _ (by omega))
    by_cases ha : a = b - 1
    · subst ha; exact last
    · exact (U.so a (b - 1) (by omega) (by omega)).tr O last
 lo := fun a ha => by
  by_cases han : a < n
  · have := U.lo a han; omega
  · have : a = n := by omega
    subst this
    rw [U.re a (Nat.le_refl _) hn]
    omega
 re := fun a ha hN => U.re a (by omega) hN
theorem zL {a nrem : Nat} {Q : AscSt → SortSt → Prop} (O : Od blt) (C : Cm M A J a₀ kd blt) (B : SB a₀ kd p st) (ha : 1 ≤ a) (han : a ≤ nrem) (hn : nrem ≤ a₀.size) (U : Up blt p a a₀.size)
 (h : ∀ n, a ≤ n → n ≤ nrem → Up blt p n a₀.size → (n = nrem ∨ blt (p n) (p (n - 1)) = true) → Q (none, n) st) : wpJ M A E J (ascLoop a nrem) Q st := by
 unfold ascLoop
 refine fg (I := fun x c st' => st' = st ∧ c = (none, x) ∧ a ≤ x ∧ Up blt p x a₀.size) han ?_ ?_ ⟨rfl, rfl, Nat.le_refl _, U⟩
 · rintro x c st' hx ⟨rfl, rfl, hax, U'⟩
   dsimp only
   refine az (zK C B (by omega) (by omega) ?_)
   cases hl : blt (p x) (p (x - 1)) with
   | true =>
    simp only [if_true]
    exact aR (h x hax (by omega) U' (.inr hl))
   | false =>
    simp only [Bool.false_eq_true, if_false]
    exact aR ⟨rfl, rfl, by omega, U'.next O (by omega) (by omega) hl⟩
 · rintro c st' ⟨rfl, rfl, hax, U'⟩
   exact h nrem hax (Nat.le_refl _) U' (.inl rfl)
structure Dn (blt : Nat → Nat → Bool) (p : Nat → Nat) (n N : Nat) : Prop where
 so : ∀ a b, a < b → b < n → Lex blt (p b) (p a)
 lo : ∀ a, a < n → p a < n
 re : ∀ a, n ≤ a → a < N → p a = a
structure Dq (blt : Nat → Nat → Bool) (p : Nat → Nat) (c n N : Nat) : Prop where
 cn : c < n
 d1 : ∀ a b, a < b → b < c → Lex blt (p b) (p a)
 d2 : ∀ a b, a < c → c ≤ b → b < n → blt (p b) (p a) = true
 d3 : ∀ a b, c ≤ a → a < b → b < n → blt (p a) (p b) = false ∧ blt (p b) (p a) = false ∧ p a < p b
 lo : ∀ a, a < n → p a < n
 re : ∀ a, n ≤ a → a < N → p a = a
theorem Dq.turn {c n N : Nat} (D : Dq blt p c n N) : Dn blt (mir p c n) n N where
 so := fun a b hab hb => by
  unfold mir
  by_cases hbc : c ≤ b
  · rw [if_pos ⟨hbc, hb⟩]
    by_cases hac : c ≤ a
    · rw [if_pos ⟨hac, by omega⟩]
      have := D.d3 (c + n - 1 - b) (c + n - 1 - a) (by omega) (by omega) (by omega)
      exact .inr ⟨this.2.1, this.2.2⟩
    · rw [if_neg (by omega)]
      exact .inl (D.d2 a _ (by omega) (by omega) (by omega))
  · rw [if_neg (by omega), if_neg (by omega)]
    exact D.d1 a b hab (by omega)
 lo := fun a ha => by
  unfold mir
  split
  · exact D.lo _ (by omega)
  · exact D.lo _ ha
 re := fun a ha hN => by
  unfold mir
  rw [if_neg (by omega)]
  exact D.re a ha hN
theorem Dq.one {n N : Nat} (D : Dq blt p (n - 1) n N) : Dn blt p n N where
 so := fun a b hab hb => by
  by_cases hbc : b < n - 1
  · exact D.d1 a b hab hbc
  · exact .inl (D.d2 a b (by omega) (by omega) hb)
 lo := D.lo
 re := D.re
theorem Dn.turn {n N : Nat} (D : Dn blt p n N) : Up blt (mir p 0 n) n N where
 so := fun a b hab hb => by
  unfold mir
  rw [if_pos ⟨Nat.zero_le _, by omega⟩, if_pos ⟨Nat.zero_le _, hb⟩]
  exact D.so _ _ (by omega) (by omega)
 lo := fun a ha => by
  unfold mir
  rw [if_pos ⟨Nat.zero_le _, ha⟩]
  exact D.lo _ (by omega)
 re := fun a ha hN => by
  unfold mir
  rw [if_neg (by omega)]
  exact D.re a ha hN
theorem Dn.next (O : Od blt) {n N : Nat} (D : Dn blt p n N) (h1 : 1 ≤ n) (hn : n < N) (h : blt (p n) (p (n - 1)) = true) : Dq blt p n (n + 1) N where
 cn := by omega
 d1 := D.so
 d2 := fun a b ha hb hb' => by
  have : b = n := by omega
  subst this
  by_cases e : a = b - 1
  · subst e; exact h
  · rcases D.so a (b - 1) (by omega) (by omega) with q | ⟨q, _⟩
    · exact O.tr _ _ _ h q
    · exact O.lt_le h q
 d3 := fun a b ha hab hb => by omega
 lo := fun a ha => by
  by_cases han : a < n
  · have := D.lo a han; omega
  · have : a = n := by omega
    subst this
    rw [D.re a (Nat.le_refl _) hn]
    omega
 re := fun a ha hN => D.re a (by omega) hN
theorem Dq.next (O : Od blt) {c n N : Nat} (D : Dq blt p c n N) (hn : n < N) (h1 : blt (p n) (p (n - 1)) = false) (h2 : blt (p (n - 1)) (p n) = false) : Dq blt p c (n + 1) N where
 cn := by have := D.cn; omega
 d1 := D.d1
 d2 := fun a b ha hb hb' => by
  by_cases hbn : b < n
  · exact D.d2 a b ha hb hbn
  · have : b = n := by omega
    subst this
    exact O.le_lt h2 (D.d2 a (b - 1) ha (by have := D.cn; omega) (by omega))
 d3 := fun a b ha hab hb => by
  by_cases hbn : b < n
  · exact D.d3 a b ha hab hbn
  · have : b = n := by omega
    subst this
    have hlt : p a < p b := by
     have := D.lo a (by omega)
     rw [D.re b (Nat.le_refl _) hn]
     exact this
    by_cases e : a = b - 1
    · subst e; exact ⟨h2, h1, hlt⟩
    · obtain ⟨q1, q2, _⟩ := D.d3 a (b - 1) ha (by omega) (by omega)
      exact ⟨O.le h2 q1, O.le q2 h1, hlt⟩
 lo := fun a ha => by
  by_cases han : a < n
  · have := D.lo a han; omega
  · have : a = n := by omega
    subst this
    rw [D.re a (Nat.le_refl _) hn]
    omega
 re := fun a ha hN => D.re a (by omega) hN
theorem qC {n nrem : Nat} {Q : Option Nat → SortSt → Prop} (O : Od blt) (C : Cm M A J a₀ kd blt) (B : SB a₀ kd p st) (h1 : 1 ≤ n) (hnn : n ≤ nrem) (hn : nrem ≤ a₀.size) (D : Dn blt p n a₀.size)
 (h : ∀ m p' st', SB a₀ kd p' st' → 1 ≤ m → m ≤ nrem → Up blt p' m a₀.size → Q (some m) st') : wpJ M A E J (tail3 n nrem) Q st := by
 unfold tail3
 refine az (tR ?_)
 have B' := B.mirror (i := 0) (j := n) (by omega)
 exact az (zL O C B' h1 hnn hn D.turn fun m hm1 hm2 U _ => aR (h m _ _ B' (by omega) hm2 U))
theorem zM {n nrem : Nat} {Q : DescSt → SortSt → Prop} (O : Od blt) (C : Cm M A J a₀ kd blt) (B : SB a₀ kd p st) (h1 : 2 ≤ n) (hnn : n ≤ nrem) (hn : nrem ≤ a₀.size) (D : Dq blt p (n - 1) n a₀.size)
 (h : ∀ m neq p' st', SB a₀ kd p' st' → n ≤ m → m ≤ nrem → neq + 1 ≤ m → Dq blt p' (m - (neq + 1)) m a₀.size → Q (none, m, neq) st') : wpJ M A E J (descLoop n nrem) Q st := by
 unfold descLoop
 refine fg (I := fun x c st' => ∃ neq p', c = (none, x, neq) ∧ SB a₀ kd p' st' ∧ n ≤ x ∧ neq + 1 ≤ x ∧ Dq blt p' (x - (neq + 1)) x a₀.size) hnn ?_ ?_ ⟨0, p, rfl, B, Nat.le_refl _, by omega, D⟩
 · rintro x c st' hx ⟨neq, p', rfl, B', hax, hq, D'⟩
   dsimp only
   refine az (zK C B' (by omega) (by omega) ?_)
   cases hl : blt (p' x) (p' (x - 1)) with
   | true =>
    simp only [if_true]
    by_cases hneq : neq > 0
    · rw [if_pos hneq]
      refine az (tR (aR ?_))
      have B2 := B'.mirror (i := x - (neq + 1)) (j := x) (by omega)
      refine ⟨0, _, rfl, B2, by omega, by omega, ?_⟩
      have D2 := D'.turn
      have hc := D'.cn
      refine D2.next O (by omega) (by omega) ?_
      have e1 : mir p' (x - (neq + 1)) x x = p' x := by unfold mir; rw [if_neg (by omega)]
      have e2 : mir p' (x - (neq + 1)) x (x - 1) = p' (x - (neq + 1)) := by unfold mir; rw [if_pos (by omega)]; congr 1; omega
      rw [e1, e2]
      by_cases e : x - (neq + 1) = x - 1
      · rw [e]; exact hl
      · exact O.lt_le hl (D'.d3 (x - (neq + 1)) (x - 1) (Nat.le_refl _) (by omega) (by omega)).1
    · rw [if_neg hneq]
      have e : neq = 0 := by omega
      subst e
      exact aR ⟨0, p', rfl, B', by omega, by omega, D'.one.next O (by omega) (by omega) hl⟩
   | false =>
    simp only [Bool.false_eq_true, if_false]
    refine az (zK C B' (by omega) (by omega) ?_)
    cases hg : blt (p' (x - 1)) (p' x) with
    | true =>
     simp only [if_true]
     exact aR (h x neq p' st' B' hax (by omega) hq D')
    | false =>
     simp only [Bool.false_eq_true, if_false]
     refine aR ⟨neq + 1, p', rfl, B', by omega, by omega, ?_⟩
     have := D'.next O (by omega) hl hg
     rwa [show x + 1 - (neq + 1 + 1) = x - (neq + 1) by omega]
 · rintro c st' ⟨neq, p', rfl, B', hax, hq, D'⟩
   exact h nrem neq p' st' B' hax (Nat.le_refl _) hq D'
theorem iz {n nrem : Nat} {Q : Option Nat → SortSt → Prop} (O : Od blt) (C : Cm M A J a₀ kd blt) (B : SB a₀ kd p st) (h1 : 1 ≤ n) (hnn : n + 1 ≤ nrem) (hn : nrem ≤ a₀.size) (D : Dq blt p n (n + 1) a₀.size)
 (h : ∀ m p' st', SB a₀ kd p' st' → 1 ≤ m → m ≤ nrem → Up blt p' m a₀.size → Q (some m) st') : wpJ M A E J (descPart n nrem) Q st := by
 unfold descPart
 refine az (qB fun s hs => wpAny_rule ⟨hs, ?_⟩)
 refine az (zM O C B (by omega) hnn hn D fun m neq p' st' B' hm1 hm2 hq D' => ?_)
 dsimp only
 by_cases hneq : neq > 0
 · rw [if_pos hneq]
   exact az (tR (qC O C (B'.mirror (by omega)) (by omega) hm2 hn D'.turn h))
 · rw [if_neg hneq]
   have e : neq = 0 := by omega
   subst e
   exact qC O C B' (by omega) hm2 hn D'.one h
theorem wN {nrem : Nat} {Q : Option Nat → SortSt → Prop} (O : Od blt) (C : Cm M A J a₀ kd blt) (B : SB a₀ kd p st) (h1 : 1 ≤ nrem) (hn : nrem ≤ a₀.size) (hp : ∀ k, k < a₀.size → p k = k)
 (h : ∀ m p' st', SB a₀ kd p' st' → 1 ≤ m → m ≤ nrem → Up blt p' m a₀.size → Q (some m) st') : wpJ M A E J (countRun' 0 nrem) Q st := by
 rw [countRun0_eq]
 refine az (zL O C B (Nat.le_refl 1) h1 hn ⟨fun a b hab hb => by omega, fun a ha => by rw [hp a (by omega)]; exact ha, fun a _ hN => hp a hN⟩ fun n hn1 hn2 U hor => ?_)
 dsimp only
 by_cases hnn : n = nrem
 · rw [if_pos (by simpa using hnn)]
   exact aR (h n p st B hn1 hn2 U)
 · rw [if_neg (by simpa using hnn)]
   have hlt : blt (p n) (p (n - 1)) = true := hor.resolve_left hnn
   by_cases hgt : n > 1
   · rw [if_pos hgt]
     refine az (zK C B (by omega) (by omega) ?_)
     cases hr : blt (p 0) (p (n - 1)) with
     | true =>
      simp only [if_true]
      exact aR (h n p st B hn1 hn2 U)
     | false =>
      simp only [Bool.false_eq_true, if_false]
      have B' := B.mirror (i := 0) (j := n) (by omega)
      have le0 : ∀ a, a < n → blt (p a) (p 0) = false := fun a ha => by
       by_cases e : a = 0
       · subst e; exact O.ir _
       · rcases U.so 0 a (by omega) ha with q | q
         · exact O.as q
         · exact q.1
      have leN : ∀ a, a < n → blt (p (n - 1)) (p a) = false := fun a ha => by
       by_cases e : a = n - 1
       · subst e; exact O.ir _
       · rcases U.so a (n - 1) (by omega) (by omega) with q | q
         · exact O.as q
         · exact q.1
      have eq : ∀ a b, a < n → b < n → blt (p a) (p b) = false := fun a b ha hb => O.le (leN b hb) (O.le hr (le0 a ha))
      have D : Dq blt (mir p 0 n) n (n + 1) a₀.size := by
       have Dm : Dn blt (mir p 0 n) n a₀.size := ⟨fun a b hab hb => by
        unfold mir
        rw [if_pos ⟨Nat.zero_le _, hb⟩, if_pos ⟨Nat.zero_le _, by omega⟩]
        refine .of_le (eq _ _ (by omega) (by omega)) ?_
        rw [hp _ (by omega), hp _ (by omega)]
        omega, fun a ha => by
        unfold mir
        rw [if_pos ⟨Nat.zero_le _, ha⟩, hp _ (by omega)]
        omega, fun a ha hN => by
        unfold mir
        rw [if_neg (by omega), hp _ hN]⟩
       refine Dm.next O (by omega) (by omega) ?_
       have e1 : mir p 0 n n = p n := by unfold mir; rw [if_neg (by omega)]
       have e2 : mir p 0 n (n - 1) = p 0 := by unfold mir; rw [if_pos (by omega)]; congr 1; omega
       rw [e1, e2]
       exact O.lt_le hlt (eq 0 (n - 1) (by omega) (by omega))
      exact az (tR (iz O C B' (by omega) (by omega) hn D h))
   · rw [if_neg hgt]
     have hn1' : n = 1 := by omega
     subst hn1'
     refine iz O C B (by omega) (by omega) hn ?_ h
     have Dm : Dn blt p 1 a₀.size := ⟨fun a b hab hb => by omega, U.lo, U.re⟩
     exact Dm.next O (by omega) (by omega) hlt
theorem Ct {n ok : Nat} {Q : Bool → SortSt → Prop} (O : Od blt) (C : Cm M A J a₀ kd blt) (B : SB a₀ kd p st) (hok : 1 ≤ ok) (hon : ok ≤ n) (hn : n ≤ a₀.size) (U : Up blt p ok a₀.size)
 (h : ∀ p' st', SB a₀ kd p' st' → Up blt p' n a₀.size → Q true st') : wpJ M A E J (binarySort' 0 n ok) Q st := by
 rw [binarySort'_eq]
 simp only [Nat.zero_add]
 rw [show max ok 1 = ok by omega]
 refine az (kJ (fg (I := fun k c st' => ∃ p', c = (none, ()) ∧ ok ≤ k ∧ SB a₀ kd p' st' ∧ Up blt p' k a₀.size) (Q := fun c st' => ∃ p', c = (none, ()) ∧ SB a₀ kd p' st' ∧ Up blt p' n a₀.size) hon ?_ ?_ ⟨p, rfl, Nat.le_refl _, B, U⟩) ?_)
 · rintro k c st' hk ⟨p', rfl, hok', B', U'⟩
   have hpk : p' k = k := U'.re k (Nat.le_refl _) (by omega)
   refine az (kJ (fg (I := fun x c st'' => st'' = st' ∧ ∃ l r, c = (none, l, r) ∧ l ≤ r ∧ r ≤ k ∧ r - l ≤ k - x ∧ (∀ i, i < l → blt (p' k) (p' i) = false) ∧ (∀ i, r ≤ i → i < k → blt (p' k) (p' i) = true))
    (Q := fun c st'' => st'' = st' ∧ ∃ l r, c = (none, l, r) ∧ l ≤ k ∧ (∀ i, i < l → blt (p' k) (p' i) = false) ∧ (∀ i, l ≤ i → i < k → blt (p' k) (p' i) = true)) (Nat.zero_le k) ?_ ?_ ⟨rfl, 0, k, rfl, by omega, by omega, by omega, fun i hi => by omega, fun i h1 h2 => by omega⟩) ?_)
   · rintro x c st'' hx ⟨rfl, l, r, rfl, hlr, hrk, hm, hlo, hhi⟩
     dsimp only
     by_cases hge : l ≥ r
     · rw [if_pos hge]
       have : l = r := by omega
       subst this
       exact aR ⟨rfl, l, l, rfl, hrk, hlo, hhi⟩
     · rw [if_neg hge]
       refine az (zK C B' (by omega) (by omega) ?_)
       cases hless : blt (p' k) (p' ((l + r) / 2)) with
       | true =>
        simp only [if_true]
        refine aR ⟨rfl, l, (l + r) / 2, rfl, by omega, by omega, by omega, hlo, fun i i1 i2 => ?_⟩
        by_cases e : i = (l + r) / 2
        · subst e; exact hless
        · rcases U'.so ((l + r) / 2) i (by omega) i2 with q | q
          · exact O.tr _ _ _ hless q
          · exact O.lt_le hless q.1
       | false =>
        simp only [Bool.false_eq_true, if_false]
        refine aR ⟨rfl, (l + r) / 2 + 1, r, rfl, by omega, by omega, by omega, fun i i1 => ?_, hhi⟩
        by_cases e : i = (l + r) / 2
        · subst e; exact hless
        · rcases U'.so i ((l + r) / 2) (by omega) (by omega) with q | q
          · exact O.le (O.as q) hless
          · exact O.le q.1 hless
   · rintro c st'' ⟨rfl, l, r, rfl, hlr, hrk, hm, hlo, hhi⟩
     have : l = r := by omega
     subst this
     exact ⟨rfl, l, l, rfl, hrk, hlo, hhi⟩
   · rintro c st'' ⟨rfl, l, r, rfl, hlk, hlo, hhi⟩
     show wpJ M A E J (do moveDown' k l; pure (ForInStep.yield (none, ()))) _ _
     rw [moveDown'_eq]
     refine az (gf (aR ⟨bub p' k l, rfl, by omega, B'.bubble (by omega) hlk, ?_⟩))
     refine ⟨fun a b hab hb => ?_, fun a ha => ?_, fun a ha hN => ?_⟩
     · have c1 : bub p' k l l = p' k := by unfold bub; rw [if_pos rfl]
       have c2 : ∀ x, l < x → x ≤ k → bub p' k l x = p' (x - 1) := fun x h1 h2 => by unfold bub; rw [if_neg (by omega), if_pos ⟨h1, h2⟩]
       have c3 : ∀ x, x < l → bub p' k l x = p' x := fun x h1 => by unfold bub; rw [if_neg (by omega), if_neg (by omega)]
       by_cases hbl : b = l
       · subst hbl
         rw [c1, c3 a hab]
         exact .of_le (hlo a (by omega)) (by rw [hpk]; exact U'.lo a (by omega))
       · by_cases hbg : l < b
         · rw [c2 b hbg (by omega)]
           by_cases hal : a = l
           · subst hal
             rw [c1]
             exact .inl (hhi (b - 1) (by omega) (by omega))
           · by_cases hag : l < a
             · rw [c2 a hag (by omega)]
               exact U'.so (a - 1) (b - 1) (by omega) (by omega)
             · rw [c3 a (by omega)]
               exact U'.so a (b - 1) (by omega) (by omega)
         · rw [c3 a (by omega), c3 b (by omega)]
           exact U'.so a b hab (by omega)
     · unfold bub
       split
       · rw [hpk]; omega
       · split
         · have := U'.lo (a - 1) (by omega); omega
         · have := U'.lo a (by omega); omega
     · unfold bub
       rw [if_neg (by omega), if_neg (by omega)]
       exact U'.re a (by omega) hN
 · rintro c st' ⟨p', rfl, _, B', U'⟩
   exact ⟨p', rfl, B', U'⟩
 · rintro c st' ⟨p', rfl, B', U'⟩
   exact aR (h p' st' B' U')
end
section
variable {M : Model} {A : Around} {E : Value → Shared → Prop} {J : Shared → Prop} {a₀ : Array Keyed} {kd : SortKind} {blt : Nat → Nat → Bool} {p : Nat → Nat} {st : SortSt}
structure Bj (a₀ : Array Keyed) (blt : Nat → Nat → Bool) (p : Nat → Nat) (xs : Array Keyed) : Prop where
 sz : xs.size = a₀.size
 at' : ∀ k, k < a₀.size → xs[k]? = a₀[p k]?
 lt : ∀ k, k < a₀.size → p k < a₀.size
 inj : ∀ a b, a < a₀.size → b < a₀.size → p a = p b → a = b
 so : ∀ a b, a < b → b < a₀.size → Lex blt (p a) (p b)
def Dne (a₀ : Array Keyed) (blt : Nat → Nat → Bool) (st : SortSt) : Prop := ∃ p, Bj a₀ blt p (arrOf st) ∧ failedOf st = none ∧ pendingOf st = #[(0, a₀.size, 0)]
theorem SB.done (B : SB a₀ kd p st) (U : Up blt p a₀.size a₀.size) : Dne a₀ blt (setPending st ((pendingOf st).push (0, a₀.size, 0))) :=
 ⟨p, ⟨B.sz, B.at', B.lt, B.inj, U.so⟩, B.failed, by show (pendingOf st).push _ = _; rw [B.pend]; rfl⟩
theorem u4 {Q : Unit → SortSt → Prop} (O : Od blt) (C : Cm M A J a₀ kd blt) (B : SB a₀ kd p st) (hp : ∀ k, k < a₀.size → p k = k) (h2 : 2 ≤ a₀.size) (h64 : a₀.size < 64)
 (h : ∀ p' st', Bj a₀ blt p' (arrOf st') → failedOf st' = none → Q () st') : wpJ M A E J sortRuns' Q st := by
 rw [sortRuns'_eq]
 refine az (ow ?_)
 dsimp only
 have hmr : minRun' a₀.size a₀.size 0 = a₀.size := by
  obtain ⟨f, hf⟩ : ∃ f, a₀.size = f + 1 := ⟨a₀.size - 1, by omega⟩
  have : minRun' (f + 1) a₀.size 0 = a₀.size := by rw [minRun'_succ, if_pos h64]; rfl
  rwa [← hf] at this
 simp only [B.sz, hmr]
 refine az (kJ (fg (I := fun x c st' => (x = 0 ∧ c = (none, 0) ∧ SB a₀ kd p st') ∨ (1 ≤ x ∧ c = (none, a₀.size) ∧ Dne a₀ blt st')) (Q := fun c st' => c = (none, a₀.size) ∧ Dne a₀ blt st') (Nat.zero_le _) ?_ ?_ (.inl ⟨rfl, rfl, B⟩)) ?_)
 · rintro x c st' hx (⟨rfl, rfl, B'⟩ | ⟨hx1, rfl, D⟩)
   · dsimp only
     rw [if_neg (by omega)]
     simp only [Nat.sub_zero, Nat.min_self, Nat.zero_add]
     refine az (wN O C B' (by omega) (Nat.le_refl _) hp fun m p2 st2 B2 hm1 hm2 U2 => ?_)
     dsimp only
     by_cases hlt : m < a₀.size
     · rw [if_pos hlt]
       refine az (qB fun s hs => wpAny_rule ⟨hs, ?_⟩)
       refine az (Ct O C B2 hm1 hm2 (Nat.le_refl _) U2 fun p3 st3 B3 U3 => ?_)
       simp only [Bool.not_true, Bool.false_eq_true, if_false]
       refine az (ow ?_)
       have hb : (pendingOf st3).back? = none := by rw [B3.pend]; rfl
       rw [hb]
       dsimp only
       exact az (gf (aR (.inr ⟨by omega, rfl, B3.done U3⟩)))
     · rw [if_neg hlt]
       have hm : m = a₀.size := by omega
       subst hm
       refine az (ow ?_)
       have hb : (pendingOf st2).back? = none := by rw [B2.pend]; rfl
       rw [hb]
       dsimp only
       exact az (gf (aR (.inr ⟨by omega, rfl, B2.done U2⟩)))
   · dsimp only
     rw [if_pos (Nat.le_refl _)]
     exact aR ⟨rfl, D⟩
 · rintro c st' (⟨hx, _, _⟩ | ⟨_, hc, D⟩)
   · omega
   · exact ⟨hc, D⟩
 · rintro c st' ⟨rfl, pd, D1, D2, D3⟩
   dsimp only
   refine az (kJ (fg (I := fun _ c st'' => st'' = st' ∧ c = (none, ())) (Q := fun c st'' => st'' = st' ∧ c = (none, ())) (Nat.zero_le _) ?_ (fun _ _ hh => hh) ⟨rfl, rfl⟩) ?_)
   · rintro x c st'' _ ⟨rfl, rfl⟩
     refine az (ow ?_)
     rw [if_pos (by rw [D3]; exact Nat.le_refl 1)]
     exact aR ⟨rfl, rfl⟩
   · rintro c st'' ⟨rfl, rfl⟩
     exact aR (h pd _ D1 D2)
end
abbrev eC (h : Heap) (a : Addr) (vs : List Value) : Heap := ((h.update a (Obj.mapSeq fun _ => #[])).push (seqObj "tuple" vs.toArray 0)).push (seqObj "list" #[] 0)
section
variable {prog : Program} {w : World} {A : Around} {E : Value → Shared → Prop} {s : Shared} {blt : Nat → Nat → Bool} {Kd : SortKind → Prop}
def JT (s : Shared) (H : Heap) : Shared → Prop := fun s' => ∃ tk, s.toks ≤ tk ∧ s' = { s with heap := H, toks := tk }
theorem zN {a : Addr} {vs : List Value} {n : Nat} {P : PySem.Fin → Shared → Prop} (ho : s.heap.get? a = some (seqObj "list" vs.toArray n)) (h64 : vs.length < 64) (O : Od blt)
 (hkk : 2 ≤ vs.length → ∀ s1, JT s (eC s.heap a vs) s1 → wpAny (model prog w) A (keyKind' vs.toArray) (fun k s' => JT s (eC s.heap a vs) s' ∧ Kd k) E s1)
 (C : ∀ kd, Kd kd → Cm (model prog w) A (JT s (eC s.heap a vs)) (pairsOf vs) kd blt)
 (h : ∀ (p : Nat → Nat) (out : Array Value) (tk : Nat), out.size = vs.length → (∀ k, k < vs.length → out[k]? = vs[p k]?) → (∀ k, k < vs.length → p k < vs.length) → (∀ x y, x < vs.length → y < vs.length → p x = p y → x = y) → (∀ x y, x < y → y < vs.length → Lex blt (p x) (p y)) →
   P (.done (.ret .none)) { s with heap := sortedHeap s.heap a vs out, toks := tk }) :
 wpAny (model prog w) A (Builtin.«list.sort» ⟨[.ref a], []⟩) P E s := by
 rw [list_sort_plain]
 have ha : a < s.heap.objs.size := Heap.lt_size ho
 refine wpAny_bind (listItems_at ho rfl ?_)
 refine wpAny_bind (listUpdate_at ho rfl ?_ (FD.line64 (by simpa using h64)))
 obtain ⟨e1, ho1⟩ : ∃ e1, (s.heap.update a (Obj.mapSeq fun _ => #[])).get? a = some (seqObj "list" #[] e1) := ⟨_, get?_update_seq ho (fun _ => #[])⟩
 refine wpAny_bind (seqEpoch_at ho1 rfl ?_)
 refine wpAny_bind (wpAny_newTuple ?_ (FD.line64 (by simpa using h64)))
 refine wpAny_bind (wpAny_newList ?_)
 refine wpAny_holding ?_
 have ho6 : (eC s.heap a vs).get? a = some (seqObj "list" #[] e1) := by
  rw [Heap.get?_push_ne _ _ _ (by rw [size_push', Heap.size_update]; exact Nat.ne_of_lt (Nat.lt_succ_of_lt ha)), Heap.get?_push_ne _ _ _ (by rw [Heap.size_update]; exact Nat.ne_of_lt ha)]
  exact ho1
 show wpAny (model prog w) A _ P E { s with heap := eC s.heap a vs }
 dsimp only
 have hsz : vs.toArray.size = vs.length := by simp
 have pz : (pairsOf vs).size = vs.length := pairsOf_size vs
 have pat : ∀ k, k < vs.length → (pairsOf vs)[k]? = (vs[k]?).map fun v => (v, v) := fun k hk => by
  unfold pairsOf
  simp [hk]
 by_cases h2 : vs.toArray.size < 2
 · rw [if_pos h2, if_pos h2]
   refine wpAny_bind (wpAny_pure ?_)
   rw [StateT.run_pure]
   refine wpAny_bind (wpAny_pure ?_)
   dsimp only
   refine wpAny_bind (seqEpoch_at ho6 rfl ?_)
   refine wpAny_bind (listUpdate_at ho6 rfl ?_ (hsz2 := by rw [Array.size_map]; show (pairsOf vs).size ≤ _; rw [pairsOf_size, sizeLine_eq]; omega))
   simp only [bne_self_eq_false, Bool.false_eq_true, if_false]
   refine wpAny_pure (h id ((pairsOf vs).map Prod.snd) s.toks (by simp [pz]) (fun k hk => ?_) (fun k hk => hk) (fun x y _ _ e => e) (fun x y hxy hy => by rw [hsz] at h2; omega))
   rw [Array.getElem?_map, pat k hk]
   simp [hk]
 · rw [if_neg h2, if_neg h2]
   rw [hsz] at h2
   refine wpAny_bind (wpAny_mono (hkk (by omega) { s with heap := eC s.heap a vs } ⟨s.toks, Nat.le_refl _, rfl⟩) (fun k s1 hk1 => ?_) fun _ _ e => e)
   obtain ⟨J1, hkd⟩ := hk1
   refine wpAny_bind (wpAny_mono (u4 (E := E) (Q := fun _ st' => ∃ p', Bj (pairsOf vs) blt p' (arrOf st') ∧ failedOf st' = none) (p := id) O (C k hkd)
    (st := SortSt.mk' k (vs.toArray.zip vs.toArray) #[] 7 none) ⟨rfl, fun _ _ => rfl, fun _ h => h, fun _ _ _ _ e => e, rfl, rfl, rfl⟩ (fun _ _ => rfl) (by rw [pz]; omega) (by rw [pz]; exact h64) (fun p' st' a1 a2 => ⟨p', a1, a2⟩) s1 J1) ?_ fun _ _ e => e)
   rintro ⟨⟨⟩, st'⟩ s' ⟨⟨tk, _, rfl⟩, p', F, hf⟩
   dsimp only
   refine wpAny_bind (seqEpoch_at (s := { s with heap := eC s.heap a vs, toks := tk }) ho6 rfl ?_)
   refine wpAny_bind (listUpdate_at (s := { s with heap := eC s.heap a vs, toks := tk }) ho6 rfl ?_ (hsz2 := by refine Nat.le_trans (Nat.le_of_eq ((Array.size_map ..).trans (F.sz.trans (pairsOf_size _)))) ?_; rw [sizeLine_eq]; omega))
   rw [hf]
   simp only [bne_self_eq_false, Bool.false_eq_true, if_false]
   have Fl := F.lt
   have Fi := F.inj
   have Fs := F.so
   rw [pz] at Fl Fi Fs
   refine wpAny_pure (h p' _ tk (by rw [Array.size_map, F.sz, pz]) (fun k hk => ?_) Fl Fi Fs)
   rw [Array.getElem?_map, F.at' k (by rw [pz]; exact hk), pat _ (Fl k hk)]
   simp [Fl k hk]
end
theorem oy (b : Bool) (x y : Value) : keyLt' (tuples' b) x y = (do
 let xs ← Builtin.List.listItems x; let ys ← Builtin.List.listItems y
 for ((p, q), i) in (xs.toList.zip ys.toList).zipIdx do
  if !(← eqBool p q) then return ← oneLt' (b && i == 0) p q
 return decide (xs.size < ys.size)) := rfl
theorem oz (v : Value) : firstOfTuple' v = (do
 if (← typeOf v) != .type "tuple" then return none
 return (← Builtin.List.listItems v)[0]?) := rfl
def m5 (A : Around) (p q : Value) (e l : Bool) : Prop := ∀ (prog : Program) (w : World) (E : Value → Shared → Prop) (s : Shared),
 (∀ Q : Bool → Shared → Prop, Q e s → wpAny (model prog w) A (eqBool p q) Q E s) ∧ (∀ (b : Bool) (Q : Bool → Shared → Prop), Q l s → wpAny (model prog w) A (oneLt' b p q) Q E s)
theorem m7 (x : Bool) {M : Model} {A : Around} {E : Value → Shared → Prop} {s : Shared} {Q : Bool → Shared → Prop} (h : Q x s) : wpAny M A (truthOfDropped (.bool x)) Q E s := wpAny_truthy_bool h
theorem m8 (A : Around) (a b : Str) (t u : Tok) : m5 A (.str a t) (.str b u) (decide (a = b)) (decide (a.cps.toList < b.cps.toList)) := fun prog w E s =>
 ⟨fun Q h => wpAny_eqBool_str h, fun b' Q h => by
  cases b' with
  | true => exact oneLt_str h
  | false =>
   rw [oneLt'_eq]
   simp only [Bool.false_eq_true, if_false]
   exact wpAny_bind (PyProof.Rows.lt_str (m7 _ h) : wpAny (model prog w) A (compareOp .Lt (.str a t) (.str b u)) _ E s)⟩
theorem na (A : Around) (a b : Int) (t u : Tok) : m5 A (.int a t) (.int b u) (a == b) (decide (a < b)) := fun prog w E s =>
 ⟨fun Q h => wpAny_eqBool_int h, fun b' Q h => by
  cases b' with
  | true => exact oneLt_int h
  | false =>
   rw [oneLt'_eq]
   simp only [Bool.false_eq_true, if_false]
   exact wpAny_bind (PyProof.Rows.lt_int (m7 _ h) : wpAny (model prog w) A (compareOp .Lt (.int a t) (.int b u)) _ E s)⟩
theorem qD (A : Around) (a b : Bool) : m5 A (.bool a) (.bool b) (a == b) (decide (b2i a < b2i b)) := fun prog w E s =>
 ⟨fun Q h => SeqAt.EqAt.bool_bool a b prog w E Q h, fun b' Q h => by
  cases b' with
  | true =>
   rw [oneLt'_eq]
   simp only [if_true]
   refine wpAny_bind (wpAny_cRoomFor_byValue rfl ?_)
   refine wpAny_bind (wpAny_callSpecialIfBound?_slot (typeIs_bool' s a) F.slot_bool_lt (call_gives F.slot_bool_lt (typeIs_bool' s a) F.entry_int_lt (F.args_int_lt_2 _ _) (gives_int_lt_bools a b) ?_))
   exact m7 _ h
  | false =>
   rw [oneLt'_eq]
   simp only [Bool.false_eq_true, if_false]
   exact wpAny_bind (PyProof.Rows.lt_bool (m7 _ h) : wpAny (model prog w) A (compareOp .Lt (.bool a) (.bool b)) _ E s)⟩
def bN : List (Bool × Bool) → Option Bool
 | [] => none
 | (true, _) :: r => bN r
 | (false, l) :: _ => some l
inductive kK (A : Around) : List (Value × Value) → List (Bool × Bool) → Prop
 | nil : kK A [] []
 | cons {p q : Value} {e l : Bool} {ps : List (Value × Value)} {rs : List (Bool × Bool)} : m5 A p q e l → kK A ps rs → kK A ((p, q) :: ps) ((e, l) :: rs)
section
variable {prog : Program} {w : World} {A : Around} {E : Value → Shared → Prop} {s : Shared}
theorem qE (b : Bool) {R : Option Bool × Unit → Shared → Prop} : ∀ {l : List (Value × Value)} {rs : List (Bool × Bool)} (k : Nat), kK A l rs → R (bN rs, ()) s →
 wpAny (model prog w) A (forIn (l.zipIdx k) ((none, ()) : Option Bool × Unit) fun x __s => match x with
  | ((p, q), i) => do
   let __do_lift ← eqBool p q
   if (!__do_lift) = true then do
    let __do_lift ← oneLt' (b && i == 0) p q
    pure (ForInStep.done (some __do_lift, ()))
    else pure (ForInStep.yield (none, ()))) R E s
 | _, _, k, .nil, h => by
  rw [List.zipIdx_nil, List.forIn_nil]
  exact wpAny_pure h
 | _, _, k, .cons (p := p) (q := q) (e := e) (l := l) i r, h => by
  rw [List.zipIdx_cons, List.forIn_cons]
  refine wpAny_bind ?_
  dsimp only
  refine wpAny_bind ((i prog w E s).1 _ ?_)
  cases e with
  | true =>
   simp only [Bool.not_true, Bool.false_eq_true, if_false]
   exact wpAny_pure (qE b (k + 1) r h)
  | false =>
   simp only [Bool.not_false, if_true]
   exact wpAny_bind ((i prog w E s).2 _ _ (wpAny_pure (wpAny_pure h)))
theorem kL (b : Bool) {a c : Addr} {xs ys : Array Value} {rs : List (Bool × Bool)} {Q : Bool → Shared → Prop} (h1 : s.heap.IsTuple a xs) (h2 : s.heap.IsTuple c ys) (hi : kK A (xs.toList.zip ys.toList) rs) (h : Q ((bN rs).getD (decide (xs.size < ys.size))) s) :
 wpAny (model prog w) A (keyLt' (tuples' b) (.ref a) (.ref c)) Q E s := by
 rw [oy]
 obtain ⟨o1, g1, _, n1, d1⟩ := h1
 obtain ⟨o2, g2, _, n2, d2⟩ := h2
 refine wpAny_bind (listItems_at g1 d1 (wpAny_bind (listItems_at g2 d2 ?_)))
 refine wpAny_bind (qE b 0 hi ?_)
 dsimp only
 cases hf : bN rs with
 | none => rw [hf] at h; exact wpAny_pure h
 | some r => rw [hf] at h; exact wpAny_pure h
inductive dC (h : Heap) : List Value → List Value → Prop
 | nil : dC h [] []
 | cons {a : Addr} {xs : Array Value} {f : Value} {vs fs : List Value} : h.IsTuple a xs → xs[0]? = some f → dC h vs fs → dC h (.ref a :: vs) (f :: fs)
theorem kM {R : List (Option Value) → Shared → Prop} : ∀ {vs : List Value} {fs : List Value}, dC s.heap vs fs → R (fs.map some) s → wpAny (model prog w) A (vs.mapM firstOfTuple') R E s
 | _, _, .nil, h => by rw [List.mapM_nil]; exact wpAny_pure h
 | _, _, .cons e2 e3 r, h => by
  rw [List.mapM_cons, oz]
  obtain ⟨o, g, c, n, d⟩ := e2
  refine wpAny_bind (wpAny_bind (wpAny_typeOf (T := "tuple") ⟨o, g, c⟩ ?_))
  rw [if_neg (by decide)]
  refine wpAny_bind (listItems_at g d (wpAny_pure ?_))
  rw [e3]
  refine wpAny_bind (kM r ?_)
  exact wpAny_pure h
end
end TS
namespace TS
open PySem PyProof.Rows FD
def kdI : Dv → Nat
 | .str _ => 1
 | .int _ => 2
 | .bl _ => 3
 | _ => 0
def eqI : Dv → Dv → Bool
 | .str a, .str b => decide (a = b)
 | .int a, .int b => a == b
 | .bl a, .bl b => a == b
 | _, _ => false
def ltI : Dv → Dv → Bool
 | .str a, .str b => decide (a.cps.toList < b.cps.toList)
 | .int a, .int b => decide (a < b)
 | .bl a, .bl b => decide (b2i a < b2i b)
 | _, _ => false
def ltL : List Dv → List Dv → Bool
 | x :: xs, y :: ys => if eqI x y then ltL xs ys else ltI x y
 | _, _ => false
def sig (ds : List Dv) : List Nat := ds.map kdI
def cx (ks : List Nat) : Bool := ks.all fun k => k != 0
theorem iA {x y : Dv} (h : eqI x y = true) : x = y := by
 cases x <;> cases y <;> simp [eqI] at h <;> simp [h]
theorem nb {x : Dv} (h : kdI x ≠ 0) : eqI x x = true := by
 cases x <;> simp [kdI] at h <;> simp [eqI]
theorem ng (x : Dv) : ltI x x = false := by
 cases x with
 | str a => simp only [ltI, decide_eq_false_iff_not]; exact List.lt_irrefl _
 | int a => simp [ltI]
 | bl a => cases a <;> rfl
 | _ => rfl
theorem nh {x y z : Dv} (h1 : ltI x y = true) (h2 : ltI y z = true) : ltI x z = true := by
 cases x <;> cases y <;> simp only [ltI, Bool.false_eq_true, decide_eq_true_eq] at h1 <;> cases z <;> simp only [ltI, Bool.false_eq_true, decide_eq_true_eq] at h2 ⊢
 · omega
 · omega
 · exact List.lt_trans h1 h2
theorem wO (a b : Str) (h : ¬ a.cps.toList < b.cps.toList) (h' : ¬ b.cps.toList < a.cps.toList) : a = b := by
 have e : a.cps.toList = b.cps.toList := List.le_antisymm (List.not_lt.mp h') (List.not_lt.mp h)
 obtain ⟨⟨a⟩⟩ := a; obtain ⟨⟨b⟩⟩ := b
 simp at e
 rw [e]
theorem qF {x y : Dv} (hk : kdI x = kdI y) (h0 : kdI x ≠ 0) (h1 : ltI x y = false) (h2 : ltI y x = false) : x = y := by
 cases x <;> simp [kdI] at h0 <;> cases y <;> simp [kdI] at hk
 · rename_i a b
   cases a <;> cases b <;> simp [ltI, b2i] at h1 h2 ⊢
 · simp [ltI] at h1 h2
   simp
   omega
 · simp only [ltI, decide_eq_false_iff_not] at h1 h2
   rw [wO _ _ h1 h2]
theorem qG : ∀ xs : List Dv, ltL xs xs = false
 | [] => rfl
 | x :: xs => by
  unfold ltL
  split
  · exact qG xs
  · exact ng x
theorem qH : ∀ {xs ys zs : List Dv}, ltL xs ys = true → ltL ys zs = true → ltL xs zs = true
 | x :: xs, y :: ys, z :: zs, h1, h2 => by
  unfold ltL at h1 h2 ⊢
  by_cases e1 : eqI x y = true
  · have := iA e1
    subst this
    rw [if_pos e1] at h1
    by_cases e2 : eqI x z = true
    · rw [if_pos e2] at h2 ⊢
      exact qH h1 h2
    · rw [if_neg e2] at h2 ⊢
      exact h2
  · rw [if_neg e1] at h1
    by_cases e2 : eqI y z = true
    · have := iA e2
      subst this
      rw [if_neg e1]
      exact h1
    · rw [if_neg e2] at h2
      have := nh h1 h2
      rw [if_neg fun e => by
       have := iA e
       subst this
       have := nh h1 h2
       rw [ng] at this
       cases this]
      exact this
 | [], _, _, h1, _ => by simp [ltL] at h1
 | _ :: _, [], _, h1, _ => by simp [ltL] at h1
 | _ :: _, _ :: _, [], _, h2 => by simp [ltL] at h2
theorem qI : ∀ {xs ys zs : List Dv}, sig xs = sig ys → sig ys = sig zs → cx (sig xs) = true → ltL xs zs = true → ltL xs ys = true ∨ ltL ys zs = true
 | x :: xs, y :: ys, z :: zs, s1, s2, hk, h => by
  simp only [sig, List.map_cons, List.cons.injEq] at s1 s2
  simp only [sig, cx, List.map_cons, List.all_cons, Bool.and_eq_true, bne_iff_ne, ne_eq] at hk
  have hx := hk.1
  unfold ltL at h ⊢
  by_cases e1 : eqI x y = true
  · have := iA e1
    subst this
    rw [if_pos e1]
    by_cases e2 : eqI x z = true
    · rw [if_pos e2] at h ⊢
      exact qI s1.2 s2.2 (by simpa [cx, sig] using hk.2) h
    · rw [if_neg e2] at h ⊢
      exact .inr h
  · rw [if_neg e1]
    by_cases e2 : eqI y z = true
    · have := iA e2
      subst this
      rw [if_neg e1] at h
      exact .inl h
    · rw [if_neg e2]
      cases hl : ltI x y with
      | true => exact .inl rfl
      | false =>
       cases hr : ltI y z with
       | true => exact .inr rfl
       | false =>
        exfalso
        have g1 : ltI y x = true := by
         cases q : ltI y x with
         | true => rfl
         | false =>
          have := qF s1.1 hx hl q
          subst this
          exact absurd (nb hx) e1
        have g2 : ltI z y = true := by
         cases q : ltI z y with
         | true => rfl
         | false =>
          have := qF s2.1 (by rw [← s1.1]; exact hx) hr q
          subst this
          exact absurd (nb (by rw [← s1.1]; exact hx)) e2
        have g3 := nh g2 g1
        by_cases e3 : eqI x z = true
        · have := iA e3
          subst this
          rw [ng] at g3
          cases g3
        · rw [if_neg e3] at h
          have := nh h g3
          rw [ng] at this
          cases this
 | [], _, _, _, _, _, h => by simp [ltL] at h
 | _ :: _, [], _, s1, _, _, _ => by simp [sig] at s1
 | _ :: _, _ :: _, [], _, s2, _, _ => by simp [sig] at s2
theorem qJ {R : Nat → Nat → Prop} (as : ∀ a b, R a b → R b a → False) : ∀ {l m : List Nat}, l.Perm m → l.Pairwise R → m.Pairwise R → l = m
 | [], m, hp, _, _ => hp.nil_eq
 | x :: l, [], hp, _, _ => by simpa using hp.length_eq
 | x :: l, y :: m, hp, h1, h2 => by
  rw [List.pairwise_cons] at h1 h2
  have e : x = y := by
   rcases List.mem_cons.mp (hp.mem_iff.mp (List.mem_cons_self (a := x))) with e | hx
   · exact e
   · rcases List.mem_cons.mp (hp.mem_iff.mpr (List.mem_cons_self (a := y))) with e | hy
     · exact e.symm
     · exact (as _ _ (h1.1 y hy) (h2.1 x hx)).elim
  subst e
  rw [qJ as hp.cons_inv h1.2 h2.2]
theorem Lex.as {blt : Nat → Nat → Bool} (O : Od blt) {a b : Nat} (h : Lex blt a b) (h' : Lex blt b a) : False := by
 have := h.tr O h'
 rcases this with q | q
 · rw [O.ir] at q; cases q
 · omega
theorem qK {blt : Nat → Nat → Bool} (O : Od blt) (x : Nat) : ∀ l : List Nat, (∀ y ∈ l, x < y) → l.Pairwise (Lex blt) → (jR (fun i j => !blt j i) x l).Pairwise (Lex blt)
 | [], _, _ => by simp [jR]
 | y :: l, hx, h => by
  unfold jR
  rw [List.pairwise_cons] at h
  split
  · rename_i hc
    have hxy : Lex blt x y := .of_le (by simpa using hc) (hx y List.mem_cons_self)
    rw [List.pairwise_cons, List.pairwise_cons]
    refine ⟨fun z hz => ?_, h⟩
    rcases List.mem_cons.mp hz with rfl | hz
    · exact hxy
    · exact hxy.tr O (h.1 z hz)
  · rename_i hc
    rw [List.pairwise_cons]
    refine ⟨fun z hz => ?_, qK O x l (fun z hz => hx z (List.mem_cons_of_mem _ hz)) h.2⟩
    rcases List.mem_cons.mp ((c6 _ x l).mem_iff.mp hz) with rfl | hz
    · exact .inl (by simpa using hc)
    · exact h.1 z hz
theorem ni {blt : Nat → Nat → Bool} (O : Od blt) : ∀ l : List Nat, l.Pairwise (· < ·) → (isortB (fun i j => !blt j i) l).Pairwise (Lex blt)
 | [], _ => .nil
 | x :: l, h => by
  rw [List.pairwise_cons] at h
  exact qK O x _ (fun y hy => h.1 y ((isortB_perm _ l).mem_iff.mp hy)) (ni O l h.2)
theorem qL {α β : Type} {le : α → α → Bool} {le' : β → β → Bool} (f : α → β) (x : α) : ∀ l : List α, (∀ y ∈ l, le x y = le' (f x) (f y)) → (jR le x l).map f = jR le' (f x) (l.map f)
 | [], _ => rfl
 | y :: l, h => by
  have e := h y List.mem_cons_self
  simp only [jR, List.map_cons]
  rw [← e]
  split
  · rfl
  · rw [List.map_cons, qL f x l fun z hz => h z (List.mem_cons_of_mem _ hz)]
theorem sort_map {α β : Type} {le : α → α → Bool} {le' : β → β → Bool} (f : α → β) : ∀ l : List α, (∀ x ∈ l, ∀ y ∈ l, le x y = le' (f x) (f y)) → (isortB le l).map f = isortB le' (l.map f)
 | [], _ => rfl
 | x :: l, h => by
  simp only [isortB, List.map_cons]
  rw [qL (le' := le') f x _ fun y hy => h x List.mem_cons_self y (List.mem_cons_of_mem _ ((isortB_perm _ l).mem_iff.mp hy)), sort_map f l fun a ha b hb => h a (List.mem_cons_of_mem _ ha) b (List.mem_cons_of_mem _ hb)]
theorem gD : ∀ (l m : List Nat), l.Nodup → (∀ x ∈ l, x ∈ m) → m.length ≤ l.length → l.Perm m
 | [], m, _, _, h => by
  have : m = [] := List.length_eq_zero_iff.mp (by simpa using h)
  subst this
  exact .refl _
 | x :: l, m, nd, hs, h => by
  rw [List.nodup_cons] at nd
  obtain ⟨m1, m2, rfl⟩ := List.append_of_mem (hs x List.mem_cons_self)
  refine ((gD l (m1 ++ m2) nd.2 (fun y hy => ?_) (by simp at h ⊢; omega)).cons x).trans List.perm_middle.symm
  have := hs y (List.mem_cons_of_mem _ hy)
  simp only [List.mem_append, List.mem_cons] at this ⊢
  rcases this with q | rfl | q
  · exact .inl q
  · exact (nd.1 hy).elim
  · exact .inr q
theorem lQ {n : Nat} {p : Nat → Nat} (hlt : ∀ k, k < n → p k < n) (inj : ∀ a b, a < n → b < n → p a = p b → a = b) : ((List.range n).map p).Perm (List.range n) := by
 have nd : ((List.range n).map p).Nodup := by
  rw [List.nodup_iff_pairwise_ne, List.pairwise_map]
  refine (List.nodup_range (n := n)).imp_of_mem fun {a b} ha hb hab e => hab (inj a b (by simpa using ha) (by simpa using hb) e)
 have sub : ∀ x ∈ (List.range n).map p, x ∈ List.range n := fun x hx => by
  obtain ⟨k, hk, rfl⟩ := List.mem_map.mp hx
  simpa using hlt k (by simpa using hk)
 exact gD _ _ nd sub (by simp)
theorem gE {blt : Nat → Nat → Bool} (O : Od blt) {n : Nat} {p : Nat → Nat} (hlt : ∀ k, k < n → p k < n) (inj : ∀ a b, a < n → b < n → p a = p b → a = b) (so : ∀ a b, a < b → b < n → Lex blt (p a) (p b)) :
 (List.range n).map p = isortB (fun i j => !blt j i) (List.range n) := by
 refine qJ (fun a b h h' => h.as O h') ((lQ hlt inj).trans (isortB_perm _ _).symm) ?_ (ni O _ List.pairwise_lt_range)
 rw [List.pairwise_map]
 exact (List.pairwise_lt_range (n := n)).imp_of_mem fun {a b} ha hb hab => so a b hab (by simpa using hb)
section
variable {prog : Program} {w : World} {A : Around} {E : Value → Shared → Prop} {s : Shared}
theorem nj {R : List Value → Shared → Prop} : ∀ {fs : List Value}, (∀ f ∈ fs, ∃ T, ∀ s' : Shared, s'.TypeIs f T) → (∀ ts, R ts s) → wpAny (model prog w) A (fs.mapM typeOf) R E s
 | [], _, h => by rw [List.mapM_nil]; exact wpAny_pure (h _)
 | f :: fs, hf, h => by
  obtain ⟨T, hT⟩ := hf f List.mem_cons_self
  rw [List.mapM_cons]
  refine wpAny_bind (wpAny_typeOf (hT s) ?_)
  exact wpAny_bind (nj (fun g hg => hf g (List.mem_cons_of_mem _ hg)) fun ts => wpAny_pure (h _))
theorem zO {vs fs : List Value} (hF : dC s.heap vs fs) (hf : ∀ f ∈ fs, ∃ T, ∀ s' : Shared, s'.TypeIs f T) {R : SortKind → Shared → Prop} (h : ∀ b, R (tuples' b) s) : wpAny (model prog w) A (keyKind' vs.toArray) R E s := by
 rw [keyKind'_eq, List.mapM_toArray]
 refine wpAny_bind ?_
 rw [← bind_pure_comp]
 refine wpAny_bind (kM hF (wpAny_pure ?_))
 rw [if_pos (by simp)]
 refine wpAny_bind (wpAny_rule ?_)
 have e : (fs.map some).toArray.filterMap id = fs.toArray := by simp
 rw [e, oneTypeOnly'_eq, List.mapM_toArray]
 refine wpAny_bind (wpAny_bind ?_)
 rw [← bind_pure_comp]
 refine wpAny_bind (nj hf fun ts => wpAny_pure ?_)
 split
 · exact wpAny_pure (wpAny_pure (h _))
 · exact wpAny_pure (wpAny_pure (h _))
end
section
variable {prog : Program} {w : World} {A : Around} {E : Value → Shared → Prop} {s : Shared} {blt : Nat → Nat → Bool}
theorem tU {l : Addr} {vs fs : List Value} {Q : Value → Shared → Prop} (hl : s.heap.IsList l vs.toArray) (h64 : vs.length < 64) (O : Od blt) (hF : dC s.heap vs fs) (hf : ∀ f ∈ fs, ∃ T, ∀ s' : Shared, s'.TypeIs f T)
 (hC : ∀ (A' : Around) (i j : Nat) (x y : Value), vs[i]? = some x → vs[j]? = some y → ∃ a c xs ys rs, x = .ref a ∧ y = .ref c ∧ s.heap.IsTuple a xs ∧ s.heap.IsTuple c ys ∧ kK A' (xs.toList.zip ys.toList) rs ∧ (bN rs).getD (decide (xs.size < ys.size)) = blt i j)
 (h : ∀ (L : Addr) (h' : Heap) (tk : Nat) (out : List Value) (e : Nat) (p : Nat → Nat), h'.get? L = some (seqObj "list" out.toArray e) → s.heap.objs.size ≤ L → (∀ b o, s.heap.get? b = some o → h'.get? b = some o) →
   out.length = vs.length → (∀ k, k < vs.length → out[k]? = vs[p k]?) → (List.range vs.length).map p = isortB (fun i j => !blt j i) (List.range vs.length) → (∀ k, k < vs.length → p k < vs.length) → Q (.ref L) { s with heap := h', toks := tk }) :
 wpAny (model prog w) A (call (.builtin "sorted") [.ref l]) Q E s := by
 refine Calls.call_function_entry kind_sorted plain_sorted entry_sorted (args_sorted1 _) ?_
 unfold Builtin.«sorted»
 refine wpAny_bind (m := checkCount "sorted" 1 1 _) (wpAny_pure ?_)
 refine wpAny_bind (collect_list hl ?_ (line64 h64))
 refine wpAny_bind (wpAny_newList ?_ (line64 h64))
 generalize hH : (s.heap.push (seqObj "list" #[] 0)).update s.heap.objs.size (Obj.mapSeq (· ++ vs.toArray)) = H1
 have sz1 : H1.objs.size = s.heap.objs.size + 1 := by rw [← hH, Heap.size_update, size_push']
 have up1 : ∀ b o, s.heap.get? b = some o → H1.get? b = some o := fun b o q => by
  have := Heap.lt_size q
  rw [← hH, Heap.get?_update_ne _ _ _ _ (Nat.ne_of_lt this), Heap.get?_push_ne _ _ _ (Nat.ne_of_lt this)]
  exact q
 have hoL : (H1.push (seqObj "list" vs.toArray 0)).get? H1.objs.size = some (seqObj "list" vs.toArray 0) := Heap.get?_push_size _ rfl
 have up2 : ∀ b o, s.heap.get? b = some o → (eC (H1.push (seqObj "list" vs.toArray 0)) H1.objs.size vs).get? b = some o := fun b o q => by
  have q1 := up1 b o q
  have := Heap.lt_size q1
  unfold eC
  rw [Heap.get?_push_ne _ _ _ (by rw [size_push', Heap.size_update, size_push']; exact Nat.ne_of_lt (Nat.lt_succ_of_lt (Nat.lt_succ_of_lt this))), Heap.get?_push_ne _ _ _ (by rw [Heap.size_update, size_push']; exact Nat.ne_of_lt (Nat.lt_succ_of_lt this)), Heap.get?_update_ne _ _ _ _ (Nat.ne_of_lt this), Heap.get?_push_ne _ _ _ (Nat.ne_of_lt this)]
  exact q1
 have tup2 : ∀ a xs, s.heap.IsTuple a xs → (eC (H1.push (seqObj "list" vs.toArray 0)) H1.objs.size vs).IsTuple a xs := fun a xs ⟨o, g, r⟩ => ⟨o, up2 _ _ g, r⟩
 have F2 : ∀ {vs' fs' : List Value}, dC s.heap vs' fs' → dC (eC (H1.push (seqObj "list" vs.toArray 0)) H1.objs.size vs) vs' fs' := by
  intro vs' fs' hF'
  induction hF' with
  | nil => exact .nil
  | cons a b _ ih => exact .cons (tup2 _ _ a) b ih
 show wpAny _ _ _ _ _ { s with heap := H1.push (seqObj "list" vs.toArray 0) }
 refine wpAny_bind (wpAny_holding (wpAny_call_entry slot_list_sort ⟨_, hoL, rfl⟩ entry_list_sort (zN (s := { s with heap := H1.push (seqObj "list" vs.toArray 0) }) (Kd := fun k => ∃ b, k = tuples' b) hoL h64 O (fun _ s1 J1 => ?_) (fun kd hk => ?_) fun p out tk o1 o2 o3 o4 o5 => ⟨_, rfl, ?_⟩) (args_list_sort _)))
 · obtain ⟨tk, htk, rfl⟩ := J1
   exact zO (s := { s with heap := eC (H1.push (seqObj "list" vs.toArray 0)) H1.objs.size vs, toks := tk }) (F2 hF) hf fun b => ⟨⟨tk, htk, rfl⟩, b, rfl⟩
 · obtain ⟨b, rfl⟩ := hk
   intro i j x y s1 E' ex ey J1
   obtain ⟨tk, htk, rfl⟩ := J1
   have pz : ∀ (k : Nat) (z : Keyed), (pairsOf vs)[k]? = some z → vs[k]? = some z.1 := fun k z hz => by
    have hk : k < vs.length := by
     have := (Array.getElem?_eq_some_iff.mp hz).1
     rwa [pairsOf_size] at this
    unfold pairsOf at hz
    simp [hk] at hz
    rw [List.getElem?_eq_getElem hk, ← hz]
   obtain ⟨a, c, xs, ys, rs, e1, e2, t1, t2, it, eb⟩ := hC _ i j x.1 y.1 (pz i x ex) (pz j y ey)
   rw [e1, e2]
   refine kL (s := { s with heap := eC (H1.push (seqObj "list" vs.toArray 0)) H1.objs.size vs, toks := tk }) b (tup2 _ _ t1) (tup2 _ _ t2) it ⟨⟨tk, htk, rfl⟩, eb⟩
 · obtain ⟨e, he⟩ := sortedHeap_at (out := out) hoL
   refine wpAny_pure ⟨_, rfl, h H1.objs.size _ tk out.toList e p (by rw [Array.toArray_toList]; exact he) (by rw [sz1]; exact Nat.le_succ _) (fun b o q => ?_) (by simpa using o1) (fun k hk => by simpa using o2 k hk) (gE O o3 o4 o5) o3⟩
   have q1 := up1 b o q
   have := Heap.lt_size q1
   rw [sortedHeap_old (Nat.ne_of_lt this) (by rw [size_push']; exact Nat.lt_succ_of_lt this), Heap.get?_push_ne _ _ _ (Nat.ne_of_lt this)]
   exact q1
end
end TS
namespace FD
open PySem PySem.Spec PyProof.Rows L2 TS
def gF : List Dv → Option (List (List Dv))
 | [] => some []
 | .tup es :: r => (gF r).map (es :: ·)
 | _ => none
def ca (rows : List (List Dv)) : Bool := decide (rows.length < 64) && rows.all fun r => decide (sig r = sig (rows.headD [])) && !r.isEmpty && cx (sig r)
def tV : List Dv → Option (Rs Dv)
 | [.lst ds] => match gF ds with
  | some rows => if ca rows = true then some (.ok (.lst ((isortB (fun a b => !ltL b a) rows).map Dv.tup))) else none
  | none => zE [.lst ds]
 | _ => none
theorem nk : ∀ {ds : List Dv} {rows : List (List Dv)}, gF ds = some rows → ds = rows.map Dv.tup
 | [], rows, h => by cases h; rfl
 | .tup es :: r, rows, h => by
  obtain ⟨rs, h1, rfl⟩ := Option.map_eq_some_iff.mp (show (gF r).map (es :: ·) = some rows from h)
  rw [nk h1]
  rfl
 | .non :: _, _, h => by cases h
 | .bl _ :: _, _, h => by cases h
 | .int _ :: _, _, h => by cases h
 | .str _ :: _, _, h => by cases h
 | .lst _ :: _, _, h => by cases h
 | .scr _ :: _, _, h => by cases h
 | .exn _ :: _, _, h => by cases h
theorem bU (k l : Bool) (rs : List (Bool × Bool)) : (bN ((k, l) :: rs)).getD false = if k = true then (bN rs).getD false else l := by cases k <;> rfl
theorem jq {K : PySem.W.Frag} {H : Hp} {A : Around} : ∀ {es es' : List Dv} {us us' : List V} {tis tis' : List Value}, sig es = sig es' → cx (sig es) = true → Reps K H es us → Reps K H es' us' → Vals us tis → Vals us' tis' →
 ∃ rs, kK A (tis.zip tis') rs ∧ (bN rs).getD false = ltL es es'
 | [], [], us, us', tis, tis', _, _, r, r', v, v' => by
  cases (show us = [] from r)
  cases v
  exact ⟨[], .nil, rfl⟩
 | x :: es, y :: es', us, us', tis, tis', s, hk, r, r', v, v' => by
  obtain ⟨u, us1, rfl, r1, r2⟩ : ∃ v us1, us = v :: us1 ∧ Rep K H x v ∧ Reps K H es us1 := r
  obtain ⟨u', us1', rfl, r1', r2'⟩ : ∃ v us1, us' = v :: us1 ∧ Rep K H y v ∧ Reps K H es' us1 := r'
  simp only [sig, List.map_cons, List.cons.injEq] at s
  simp only [sig, cx, List.map_cons, List.all_cons, Bool.and_eq_true, bne_iff_ne, ne_eq] at hk
  cases v with
  | cons v1 v2 =>
   cases v' with
   | cons v1' v2' =>
    obtain ⟨rs, i1, i2⟩ := jq (A := A) s.2 (by simpa [cx, sig] using hk.2) r2 r2' v2 v2'
    cases x with
    | str a =>
     cases y with
     | str b =>
      cases (show u = .str a from r1)
      cases (show u' = .str b from r1')
      obtain ⟨t, rfl⟩ := v1
      obtain ⟨t', rfl⟩ := v1'
      refine ⟨(decide (a = b), decide (a.cps.toList < b.cps.toList)) :: rs, .cons (m8 A a b t t') i1, ?_⟩
      rw [bU, i2]
      rfl
     | _ => exact absurd s.1 (by simp [kdI])
    | int a =>
     cases y with
     | int b =>
      cases (show u = .int a from r1)
      cases (show u' = .int b from r1')
      obtain ⟨t, rfl⟩ := v1
      obtain ⟨t', rfl⟩ := v1'
      refine ⟨(a == b, decide (a < b)) :: rs, .cons (na A a b t t') i1, ?_⟩
      rw [bU, i2]
      rfl
     | _ => exact absurd s.1 (by simp [kdI])
    | bl a =>
     cases y with
     | bl b =>
      cases (show u = .bl a from r1)
      cases (show u' = .bl b from r1')
      cases v1
      cases v1'
      refine ⟨(a == b, decide (b2i a < b2i b)) :: rs, .cons (qD A a b) i1, ?_⟩
      rw [bU, i2]
      rfl
     | _ => exact absurd s.1 (by simp [kdI])
    | _ => exact absurd rfl hk.1
 | [], _ :: _, _, _, _, _, s, _, _, _, _, _ => by simp [sig] at s
 | _ :: _, [], _, _, _, _, s, _, _, _, _, _ => by simp [sig] at s
theorem tW {K : PySem.W.Frag} {H : Hp} {x : Dv} {v : V} {u : Value} (hk : kdI x ≠ 0) (r : Rep K H x v) (rv : RelV v u) : ∃ T, ∀ s' : Shared, s'.TypeIs u T := by
 cases x with
 | str a => cases (show v = .str a from r); obtain ⟨t, rfl⟩ := rv; exact ⟨"str", fun s => typeIs_str s _ _⟩
 | int a => cases (show v = .int a from r); obtain ⟨t, rfl⟩ := rv; exact ⟨"int", fun s => typeIs_int s _ _⟩
 | bl a => cases (show v = .bl a from r); cases rv; exact ⟨"bool", fun s => typeIs_bool' s _⟩
 | _ => exact absurd rfl hk
section
variable {X : Cx} {pins : List (Addr × Obj)} {σ : L2.St} {H : Hp} {s : Shared}
theorem gG (I : Inv X pins σ H s) : ∀ {rows : List (List Dv)} {ws : List V} {its : List Value}, (∀ r ∈ rows, r ≠ [] ∧ cx (sig r) = true) → Reps X.K H (rows.map Dv.tup) ws → Vals ws its → ∃ fs, dC s.heap its fs ∧ ∀ f ∈ fs, ∃ T, ∀ s' : Shared, s'.TypeIs f T
 | [], ws, its, _, r, v => by
  cases (show ws = [] from r)
  cases v
  exact ⟨[], .nil, by simp⟩
 | es :: rows, ws, its, h, r, v => by
  obtain ⟨u, ws1, rfl, r1, r2⟩ : ∃ v ws1, ws = v :: ws1 ∧ Rep X.K H (.tup es) v ∧ Reps X.K H (rows.map Dv.tup) ws1 := r
  obtain ⟨a, xs, rfl, ha, rx⟩ := r1.tupE
  cases v with
  | cons v1 v2 =>
   cases v1
   obtain ⟨fs, f1, f2⟩ := gG I (fun r hr => h r (List.mem_cons_of_mem _ hr)) r2 v2
   obtain ⟨tis, rt, pt, hz⟩ := I.tuple (SqT.of ha)
   obtain ⟨h1, h2⟩ := h es List.mem_cons_self
   cases es with
   | nil => exact absurd rfl h1
   | cons x es =>
    obtain ⟨u, us, rfl, q1, q2⟩ : ∃ v us, xs = v :: us ∧ Rep X.K H x v ∧ Reps X.K H es us := rx
    cases rt with
    | cons w1 w2 =>
     rename_i t ts
     refine ⟨t :: fs, .cons pt (by simp) f1, fun f hf => ?_⟩
     rcases List.mem_cons.mp hf with rfl | hf
     · simp only [sig, cx, List.map_cons, List.all_cons, Bool.and_eq_true, bne_iff_ne, ne_eq] at h2
       exact tW h2.1 q1 w1
     · exact f2 f hf
theorem kN (I : Inv X pins σ H s) : ∀ {rows : List (List Dv)} {ws : List V} {its : List Value} (i : Nat) (x : Value), Reps X.K H (rows.map Dv.tup) ws → Vals ws its → its[i]? = some x → ∃ a us tis es, rows[i]? = some es ∧ ws[i]? = some (.ref a) ∧ x = .ref a ∧ Reps X.K H es us ∧ Vals us tis ∧ H a = some (.tup us) ∧ s.heap.IsTuple a tis.toArray
 | [], ws, its, i, x, r, v, h => by
  cases (show ws = [] from r)
  cases v
  simp at h
 | es :: rows, ws, its, i, x, r, v, h => by
  obtain ⟨u, ws1, rfl, r1, r2⟩ : ∃ v ws1, ws = v :: ws1 ∧ Rep X.K H (.tup es) v ∧ Reps X.K H (rows.map Dv.tup) ws1 := r
  obtain ⟨a, xs, rfl, ha, rx⟩ := r1.tupE
  cases v with
  | cons v1 v2 =>
   cases v1
   cases i with
   | zero =>
    simp at h
    subst h
    obtain ⟨tis, rt, pt, hz⟩ := I.tuple (SqT.of ha)
    exact ⟨a, xs, tis, es, rfl, rfl, rfl, rx, rt, ha, pt⟩
   | succ i =>
    obtain ⟨a', us, tis, es', q1, q2, q⟩ := kN I i x r2 v2 (by simpa using h)
    exact ⟨a', us, tis, es', by simpa using q1, by simpa using q2, q⟩
theorem bn {K : PySem.W.Frag} : ∀ {ds : List Dv} {ws : List V}, Reps K H ds ws → ds.length = ws.length
 | [], ws, r => by cases (show ws = [] from r); rfl
 | d :: ds, ws, r => by
  obtain ⟨u, ws1, rfl, r1, r2⟩ : ∃ v ws1, ws = v :: ws1 ∧ Rep K H d v ∧ Reps K H ds ws1 := r
  simp [bn r2]
theorem iB {K : PySem.W.Frag} {ds : List Dv} {ws : List V} (hl : ds.length = ws.length) (h : ∀ (i : Nat) (d : Dv) (v : V), ds[i]? = some d → ws[i]? = some v → Rep K H d v) : Reps K H ds ws := by
 induction ds generalizing ws with
 | nil => cases ws with
  | nil => exact rfl
  | cons _ _ => simp at hl
 | cons d ds ih => cases ws with
  | nil => simp at hl
  | cons w ws => exact ⟨w, ws, rfl, h 0 d w rfl rfl, ih (by simpa using hl) fun i d' v e1 e2 => h (i + 1) d' v (by simpa using e1) (by simpa using e2)⟩
theorem jr {K : PySem.W.Frag} : ∀ {ds : List Dv} {ws : List V}, Reps K H ds ws → ∀ (i : Nat) (d : Dv) (v : V), ds[i]? = some d → ws[i]? = some v → Rep K H d v
 | [], _, _, i, d, v, h, _ => by simp at h
 | d0 :: ds, ws, r, i, d, v, h, h' => by
  obtain ⟨u, ws1, rfl, r1, r2⟩ : ∃ v ws1, ws = v :: ws1 ∧ Rep K H d0 v ∧ Reps K H ds ws1 := r
  cases i with
  | zero => simp at h h'; subst h; subst h'; exact r1
  | succ i => exact jr r2 i d v (by simpa using h) (by simpa using h')
theorem iC {ws : List V} {its : List Value} (hl : ws.length = its.length) (h : ∀ (i : Nat) (v : V) (u : Value), ws[i]? = some v → its[i]? = some u → RelV v u) : Vals ws its := by
 induction ws generalizing its with
 | nil => cases its with
  | nil => exact .nil
  | cons _ _ => simp at hl
 | cons d ds ih => cases its with
  | nil => simp at hl
  | cons w ws => exact .cons (h 0 d w rfl rfl) (ih (by simpa using hl) fun i d' v e1 e2 => h (i + 1) d' v (by simpa using e1) (by simpa using e2))
def bL (rows : List (List Dv)) (i : Nat) : List Dv := rows.getD i (rows.headD [])
theorem gH {rows : List (List Dv)} (h : ∀ r ∈ rows, sig r = sig (rows.headD []) ∧ r ≠ [] ∧ cx (sig r) = true) (i : Nat) : sig (bL rows i) = sig (rows.headD []) ∧ cx (sig (bL rows i)) = true := by
 unfold bL
 cases rows with
 | nil => exact ⟨rfl, rfl⟩
 | cons r rows =>
  by_cases hi : i < (r :: rows).length
  · have e : (r :: rows).getD i ((r :: rows).headD []) = (r :: rows)[i] := by
     unfold List.getD
     rw [List.getElem?_eq_getElem hi]
     rfl
    rw [e]
    have := h _ (List.getElem_mem hi)
    exact ⟨this.1, this.2.2⟩
  · have e : (r :: rows).getD i ((r :: rows).headD []) = r := by
     unfold List.getD
     rw [List.getElem?_eq_none (by omega)]
     rfl
    rw [e]
    exact ⟨rfl, (h r List.mem_cons_self).2.2⟩
theorem qM {rows : List (List Dv)} (h : ∀ r ∈ rows, sig r = sig (rows.headD []) ∧ r ≠ [] ∧ cx (sig r) = true) : Od fun i j => ltL (bL rows i) (bL rows j) where
 ir := fun a => qG _
 tr := fun a b c h1 h2 => qH h1 h2
 nt := fun a b c h1 => qI ((gH h a).1.trans (gH h b).1.symm) ((gH h b).1.trans (gH h c).1.symm) (gH h a).2 h1
theorem dP {rows : List (List Dv)} {i : Nat} {es : List Dv} (h : rows[i]? = some es) : bL rows i = es := by
 unfold bL List.getD
 rw [h]
 rfl
theorem lR (rows : List (List Dv)) : (isortB (fun i j => !(fun i j => ltL (bL rows i) (bL rows j)) j i) (List.range rows.length)).map (bL rows) = isortB (fun a b => !ltL b a) rows := by
 have e : (List.range rows.length).map (bL rows) = rows := by
  apply List.ext_getElem?
  intro i
  by_cases hi : i < rows.length
  · rw [List.getElem?_map, List.getElem?_range hi, List.getElem?_eq_getElem hi]
    show some (bL rows i) = _
    rw [dP (List.getElem?_eq_getElem hi)]
  · rw [List.getElem?_eq_none (by simpa using hi), List.getElem?_eq_none (by omega)]
 rw [sort_map (le' := fun a b => !ltL b a) (bL rows) _ fun x _ y _ => rfl, e]
theorem call_sortT : CallR X (.builtin "sorted") (fun xs H Q => ∃ a ws rows, xs = [.ref a] ∧ H a = some (.lst ws) ∧ Reps X.K H (rows.map Dv.tup) ws ∧ ca rows = true ∧
 ∀ l ws', H l = none → Reps X.K H ((isortB (fun a b => !ltL b a) rows).map Dv.tup) ws' → Q (.ref l) (upd H l (.lst ws'))) := by
 intro pins s σ H xs us Q I r h
 obtain ⟨a, ws, rows, rfl, h1, h2, h3, q⟩ := h
 obtain ⟨u, rfl, ru⟩ := b5 r
 cases ru
 obtain ⟨z, its, n, rv, hl, e⟩ := I.lstM h1
 simp only [ca, Bool.and_eq_true, decide_eq_true_eq, List.all_eq_true, Bool.not_eq_true', List.isEmpty_eq_false_iff] at h3
 have hr : ∀ r ∈ rows, sig r = sig (rows.headD []) ∧ r ≠ [] ∧ cx (sig r) = true := fun r hr => ⟨(h3.2 r hr).1.1, (h3.2 r hr).1.2, (h3.2 r hr).2⟩
 have hlen : rows.length = its.length := by
  have g1 := bn h2
  have g2 := rv.length
  simp at g1
  omega
 obtain ⟨fs, f1, f2⟩ := gG I (fun r hr' => (hr r hr').2) h2 rv
 refine tU (vs := its) ⟨_, e, rfl, n, rfl⟩ (by omega) (qM hr) f1 f2 (fun A' i j x y ex ey => ?_) fun L h' tk out ep p g1 g2 g3 g4 g5 g6 g7 => ?_
 · obtain ⟨a1, us1, t1, es1, q1, q2, q3, q4, q5, q6, q7⟩ := kN I i x h2 rv ex
   obtain ⟨a2, us2, t2, es2, p1, p2, p3, p4, p5, p6, p7⟩ := kN I j y h2 rv ey
   have m1 := hr es1 (List.mem_of_getElem? q1)
   have m2 := hr es2 (List.mem_of_getElem? p1)
   obtain ⟨rs, i1, i2⟩ := jq (A := A') (m1.1.trans m2.1.symm) m1.2.2 q4 p4 q5 p5
   refine ⟨a1, a2, t1.toArray, t2.toArray, rs, q3, p3, q7, p7, by simpa using i1, ?_⟩
   have hsz : t1.toArray.size = t2.toArray.size := by
    have k1 := q5.length
    have k2 := p5.length
    have k3 := bn q4
    have k4 := bn p4
    have k5 : (sig es1).length = (sig es2).length := by rw [m1.1, m2.1]
    simp [sig] at k5
    simp
    omega
   rw [hsz, decide_eq_false (Nat.lt_irrefl _), i2, dP q1, dP p1]
 · have hws : ws.length = its.length := rv.length
   have hV : Vals ((List.range its.length).map fun k => ws.getD (p k) .non) out := by
    refine iC (by simp [g4]) fun i v u ev eu => ?_
    have hi : i < its.length := by
     have := (List.getElem?_eq_some_iff.mp eu).1
     omega
    rw [g5 i hi] at eu
    rw [List.getElem?_map, List.getElem?_range hi] at ev
    simp only [Option.map_some, Option.some.injEq] at ev
    have hp : p i < ws.length := by rw [hws]; exact g7 i hi
    have e1 : ws[p i]? = some v := by rw [List.getElem?_eq_getElem hp, ← ev]; simp [List.getD, hp]
    obtain ⟨u', e2, r2⟩ := rv.get e1
    rw [e2] at eu
    cases eu
    exact r2
   have hR : Reps X.K H ((isortB (fun a b => !ltL b a) rows).map Dv.tup) ((List.range its.length).map fun k => ws.getD (p k) .non) := by
    rw [← lR rows, hlen, ← g6, List.map_map, List.map_map]
    refine iB (by simp) fun i d v ed ev => ?_
    have hi : i < its.length := by
     have := (List.getElem?_eq_some_iff.mp ed).1
     simpa using this
    rw [List.getElem?_map, List.getElem?_range hi] at ed ev
    simp only [Option.map_some, Option.some.injEq, Function.comp] at ed ev
    have hp : p i < ws.length := by rw [hws]; exact g7 i hi
    have hp' : p i < rows.length := by rw [hlen]; exact g7 i hi
    refine jr h2 (p i) d v ?_ ?_
    · rw [List.getElem?_map, List.getElem?_eq_getElem hp', ← ed, dP (List.getElem?_eq_getElem hp')]
      rfl
    · rw [List.getElem?_eq_getElem hp, ← ev]
      simp [List.getD, hp]
   refine ⟨.ref L, _, I.laid (h' := h') (t' := tk) (o := .lst ((List.range its.length).map fun k => ws.getD (p k) .non)) g3 g2 ?_, rfl, q L _ (I.hok.fresh g2) hR⟩
   exact ⟨line64 (by simp; omega), out, ep, hV, by simpa [seqObj] using g1⟩
end
section
variable {X : Cx} {p pos : Pos} {e : Expr} {es : List Expr} {ga : FnA}
theorem tX (hg : Gl X "sorted") (hm : X.mg "sorted" = none) (ha : FA X (e :: es) ga) (he : starEach (e :: es) X.env = (false, eval e X.env) :: starEach es X.env := by kernel_rfl) (hpl : (backTo pos (starEach es X.env)).any (·.1) = false := by kernel_rfl) : FE X (.Call (.Name "sorted" p) (e :: es) [] pos) (fB1 tV ga) :=
 bu (cG (call_sortT.or qm) hg hm (by decide +kernel) ha.h (by decide) (by decide) he hpl) fun σ H Q ρ E o => ⟨ρ, E, OutA.bind o fun ds vs H1 e1 rs o1 => by
  unfold tV at o1
  split at o1
  · rename_i xs
    obtain ⟨v, rfl, r⟩ := bx rs
    obtain ⟨a, ws, rfl, h1, h2⟩ := r.lstE
    split at o1
    · rename_i rows hrows
      split at o1
      · rename_i hok
        rw [nk hrows] at h2
        exact .inl ⟨a, ws, rows, rfl, h1, h2, hok, fun l ws' hl' rw' => o1 _ _ (aj hl' _) ⟨l, _, rfl, ai, Reps.mono (aj hl' _) _ _ rw'⟩⟩
      · exact o1.elim
    · refine .inr ?_
      have o2 : Out X H1 (match c7 xs with
       | some ns => if ns.length < 64 then some (Rs.ok (Dv.lst (List.map Dv.int (isortB leI ns)))) else none
       | none => match bM xs with
        | some ss => if ss.length < 64 then some (Rs.ok (Dv.lst (List.map Dv.str (isortB leS ss)))) else none
        | none => none) Q := o1
      split at o2
      · rename_i ns hb
        split at o2
        · rename_i hl
          exact ⟨a, ws, xs, rfl, h1, h2, .inl ⟨ns, hb, hl, fun l hl' => o2 _ _ (aj hl' _) ⟨l, _, rfl, ai, kw _ _⟩⟩⟩
        · exact o2.elim
      · split at o2
        · rename_i ns hb
          split at o2
          · rename_i hl
            exact ⟨a, ws, xs, rfl, h1, h2, .inr ⟨ns, hb, hl, fun l hl' => o2 _ _ (aj hl' _) ⟨l, _, rfl, ai, eZ _ _⟩⟩⟩
          · exact o2.elim
        · exact o2.elim
  · exact o1.elim⟩
end
end FD
namespace FD
open PySem PySem.Spec PyProof.Rows L2 PySem.W
section
variable {X : Cx} {hx : Expr} {body : List Stmt} {f : FnS} {g : FnE} {J n : Str} {CJ : Addr} {np rp2 hpos pos : Pos}
end
end FD
namespace FD
open PySem PySem.Spec PyProof.Rows L2 TS
section
variable {X : Cx} {pins : List (Addr × Obj)} {σ : L2.St} {H : Hp} {s : Shared} {k : Nat} {f : Addr} {fd : FuncData} {ps : List Str} {F : List Dv → Option (Rs Dv)} {A' : Around} {E : Value → Shared → Prop}
theorem zP (G : FnOk X.prog X.w X.K X.mg X.base CX0 k f fd ps (spF X.K F ps.length)) (hr : Room k A') (hfr : A'.frames = X.A.frames) (hb : Binds X.K fd ps []) (I : Inv X pins σ H s) {v : V} {u : Value} {d d' : Dv} (rv : RelV v u) (r : Rep X.K H d v) (h1 : ps.length = 1) (hF : F [d] = some (.ok d')) :
 wpAny (model X.prog X.w) A' (call (.ref f) [u]) (EP X pins σ fun v' H' => Same H H' ∧ Rep X.K H' d' v') E s := by
 have e0 := I.env0
 refine wpAny_call (codeAny_mono (G.run A' X.stack s H ⟨[u], []⟩ [u] [v] (fun v' H' => Same H H' ∧ Rep X.K H' d' v') E0 hr ⟨hfr.trans e0.frames, e0.mod, e0.bs, e0.bsz, e0.funs, e0.frf, e0.hok, e0.bare⟩ (by simpa using hb s [u] I.kIn (by simp [h1])) (.cons rv .nil) ⟨[d], ⟨v, [], rfl, r, rfl⟩, h1.symm, by rw [hF]; exact fun v H' e r => ⟨e, r⟩⟩) fun r s' hq => ?_)
 cases r with
 | error e => exact hq.elim
 | ok fl =>
  cases fl with
  | ret u => exact I.after hq
  | next => exact False.elim hq
  | brk => exact False.elim hq
  | cont => exact False.elim hq
end
end FD
namespace TS
open PySem PyProof.Rows FD
section
variable {prog : Program} {w : World} {A : Around} {E : Value → Shared → Prop} {s : Shared} {blt : Nat → Nat → Bool}
theorem u5 {a kS : Addr} {e1 c : Nat} {its : Array Value} {st : SortSt} {P : PySem.Fin → Shared → Prop} (hk : s.heap.get? kS = some (seqObj "list" its c)) (ha : s.heap.get? a = some (seqObj "list" #[] e1)) (hne : kS ≠ a) (hz : its.size ≤ sizeLine) (hz2 : (arrOf st).size ≤ sizeLine) (hf : failedOf st = none)
 (h : P (.done (.ret .none)) { s with heap := (s.heap.update kS (Obj.mapSeq fun _ => #[])).update a (Obj.mapSeq fun _ => (arrOf st).map (·.2)) }) : wpAny (model prog w) A (ksk_tail a false e1 (.ref kS) st) P E s := by
 unfold ksk_tail
 refine wpAny_bind (listUpdate_at hk rfl ?_ hz (Nat.zero_le _))
 refine wpAny_bind (wpAny_letGo ?_)
 have ha2 : (s.heap.update kS (Obj.mapSeq fun _ => #[])).get? a = some (seqObj "list" #[] e1) := by
  rw [Heap.get?_update_ne _ _ _ _ hne.symm]; exact ha
 refine wpAny_bind (seqEpoch_at (s := { s with heap := s.heap.update kS (Obj.mapSeq fun _ => #[]) }) ha2 rfl ?_)
 refine wpAny_bind (listUpdate_at (s := { s with heap := s.heap.update kS (Obj.mapSeq fun _ => #[]) }) ha2 rfl ?_ (Nat.zero_le _) (by simp only [Bool.false_eq_true, if_false, Array.size_map]; omega))
 rw [hf]
 simp only [bne_self_eq_false, Bool.false_eq_true, if_false]
 exact wpAny_pure h
theorem Cu {a kS : Addr} {e1 c : Nat} {its vs fs : List Value} {P : PySem.Fin → Shared → Prop} (hk : s.heap.get? kS = some (seqObj "list" its.toArray c)) (ha : s.heap.get? a = some (seqObj "list" #[] e1)) (hne : kS ≠ a) (hlen : its.length = vs.length) (h64 : vs.length < 64) (O : Od blt)
 (hF : dC s.heap its fs) (hf : ∀ f ∈ fs, ∃ T, ∀ s' : Shared, s'.TypeIs f T)
 (hC : ∀ (A' : Around) (i j : Nat) (x y : Value), its[i]? = some x → its[j]? = some y → ∃ a c xs ys rs, x = .ref a ∧ y = .ref c ∧ s.heap.IsTuple a xs ∧ s.heap.IsTuple c ys ∧ kK A' (xs.toList.zip ys.toList) rs ∧ (bN rs).getD (decide (xs.size < ys.size)) = blt i j)
 (h : ∀ (p : Nat → Nat) (out : Array Value) (tk : Nat), out.size = vs.length → (∀ k, k < vs.length → out[k]? = vs[p k]?) → (List.range vs.length).map p = isortB (fun i j => !blt j i) (List.range vs.length) → (∀ k, k < vs.length → p k < vs.length) →
   P (.done (.ret .none)) { s with heap := (s.heap.update kS (Obj.mapSeq fun _ => #[])).update a (Obj.mapSeq fun _ => out), toks := tk }) :
 wpAny (model prog w) A (ksk_end a false vs.toArray e1 (.ref kS) its.toArray) P E s := by
 unfold ksk_end
 simp only [Bool.false_eq_true, if_false]
 have hz : its.toArray.size ≤ sizeLine := line64 (by simp; omega)
 have pz : (its.toArray.zip vs.toArray).size = vs.length := by simp [hlen]
 have pat : ∀ k, k < vs.length → (its.toArray.zip vs.toArray)[k]? = some (its.getD k .none, vs.getD k .none) := fun k hk => by
  have : k < its.length := by omega
  have hz' : k < (its.zip vs).length := by simp; omega
  have e : (its.zip vs)[k]? = some (its[k], vs[k]) := by rw [List.getElem?_eq_getElem hz', List.getElem_zip]
  simp [hk, this, List.getD, e]
 have hsz : vs.toArray.size = vs.length := by simp
 by_cases h2 : vs.toArray.size < 2
 · rw [if_pos h2, if_pos h2]
   refine wpAny_bind (wpAny_pure ?_)
   rw [StateT.run_pure]
   refine wpAny_bind (wpAny_pure ?_)
   dsimp only
   refine u5 (st := SortSt.mk' general' (its.toArray.zip vs.toArray) #[] 7 none) hk ha hne hz (line64 (by rw [pz]; exact h64)) rfl ?_
   have := h id ((its.toArray.zip vs.toArray).map (·.2)) s.toks (by rw [Array.size_map, pz]) (fun k hk => by
    rw [Array.getElem?_map, pat k hk]
    simp [hk, List.getD]) (gE O (fun k hk => hk) (fun _ _ _ _ e => e) (fun x y hxy hy => by rw [hsz] at h2; omega)) (fun k hk => hk)
   exact this
 · rw [if_neg h2, if_neg h2]
   rw [hsz] at h2
   refine wpAny_bind (zO hF hf fun b => ?_)
   refine wpAny_bind (wpAny_mono (u4 (J := JT s s.heap) (E := E) (Q := fun _ st' => ∃ p', Bj (its.toArray.zip vs.toArray) blt p' (arrOf st') ∧ failedOf st' = none) (p := id) O
    (fun i j x y s1 E' ex ey J1 => ?_)
    (st := SortSt.mk' (tuples' b) (its.toArray.zip vs.toArray) #[] 7 none) ⟨rfl, fun _ _ => rfl, fun _ h => h, fun _ _ _ _ e => e, rfl, rfl, rfl⟩ (fun _ _ => rfl) (by rw [pz]; omega) (by rw [pz]; exact h64) (fun p' st' a1 a2 => ⟨p', a1, a2⟩) s ⟨s.toks, Nat.le_refl _, rfl⟩) ?_ fun _ _ e => e)
   · obtain ⟨tk, htk, rfl⟩ := J1
     have at1 : ∀ (k : Nat) (z : Keyed), (its.toArray.zip vs.toArray)[k]? = some z → its[k]? = some z.1 := fun k z hz => by
      have hk : k < vs.length := by
       have := (Array.getElem?_eq_some_iff.mp hz).1
       rwa [pz] at this
      rw [pat k hk] at hz
      cases hz
      have : k < its.length := by omega
      simp [this, List.getD]
     obtain ⟨a1, c1, xs, ys, rs, e1', e2', t1, t2, it, eb⟩ := hC _ i j x.1 y.1 (at1 i x ex) (at1 j y ey)
     rw [e1', e2']
     exact kL (s := { s with heap := s.heap, toks := tk }) b t1 t2 it ⟨⟨tk, htk, rfl⟩, eb⟩
   · rintro ⟨⟨⟩, st'⟩ s' ⟨⟨tk, _, rfl⟩, p', F, hfl⟩
     dsimp only
     have Fl := F.lt
     have Fi := F.inj
     have Fs := F.so
     rw [pz] at Fl Fi Fs
     refine u5 (s := { s with heap := s.heap, toks := tk }) hk ha hne hz (by rw [F.sz, pz]; exact line64 h64) hfl ?_
     refine h p' ((arrOf st').map (·.2)) tk (by rw [Array.size_map, F.sz, pz]) (fun k hk => ?_) (gE O Fl Fi Fs) Fl
     rw [Array.getElem?_map, F.at' k (by rw [pz]; exact hk), pat _ (Fl k hk)]
     simp [Fl k hk, List.getD]
end
end TS
namespace FD
open PySem PySem.Spec PyProof.Rows L2 TS
section
variable {X : Cx} {pins : List (Addr × Obj)} {σ : L2.St} {H : Hp} {s : Shared} {k : Nat} {f : Addr} {fd : FuncData} {ps : List Str} {F : List Dv → Option (Rs Dv)} {A' : Around} {E : Value → Shared → Prop}
theorem kO : ∀ {ds : List Dv} (n : Nat), imms ds = true → imms (ds.take n) = true
 | [], n, _ => by simp [imms]
 | d :: ds, 0, _ => by simp [imms]
 | d :: ds, n + 1, h => by
  simp only [imms, Bool.and_eq_true] at h
  simp only [List.take_succ_cons, imms, Bool.and_eq_true]
  exact ⟨h.1, kO n h.2⟩
theorem zQ {a kS : Addr} {e1 : Nat} {vs : List Value} {ws : List V} {ds : List Dv} {rows : List (List Dv)} {P : PySem.Fin → Shared → Prop}
 (G : FnOk X.prog X.w X.K X.mg X.base CX0 k f fd ps (spF X.K F ps.length)) (hr : Room k A') (hfr : A'.frames = X.A.frames) (hb : Binds X.K fd ps []) (h1 : ps.length = 1)
 (I : Inv X (pins ++ [(a, seqObj "list" #[] e1)]) σ H s) (hk : H kS = some (.lst [])) (hne : kS ≠ a) (rv : Vals ws vs) (rw' : Reps X.K H ds ws) (im : imms ds = true)
 (hkey : ∀ (i : Nat) (d : Dv), ds[i]? = some d → ∃ es, rows[i]? = some es ∧ F [d] = some (.ok (.tup es))) (hlen : rows.length = ds.length) (hok : ca rows = true) (imk : imms (rows.map Dv.tup) = true) (fpa : ∀ H', H' a = none → nV X pins H' a)
 (h : ∀ (s' : Shared) (H' : Hp) (p : Nat → Nat) (out : Array Value) (c : Nat), Inv X pins σ H' s' → H' a = none → (∀ b u, b ≠ kS → H b = some u → H' b = some u) → s'.heap.get? a = some (seqObj "list" out c) → out.size = vs.length → (∀ k, k < vs.length → out[k]? = vs[p k]?) →
   (List.range vs.length).map p = isortB (fun i j => !(fun i j => ltL (bL rows i) (bL rows j)) j i) (List.range vs.length) → (∀ k, k < vs.length → p k < vs.length) → P (.done (.ret .none)) s') :
 wpAny (model X.prog X.w) A' (ksk_rest a (.ref f) false vs.toArray e1 (.ref kS)) P E s := by
 have hok' := hok
 simp only [ca, Bool.and_eq_true, decide_eq_true_eq, List.all_eq_true, Bool.not_eq_true', List.isEmpty_eq_false_iff] at hok'
 have hR : ∀ r ∈ rows, sig r = sig (rows.headD []) ∧ r ≠ [] ∧ cx (sig r) = true := fun r hr => ⟨(hok'.2 r hr).1.1, (hok'.2 r hr).1.2, (hok'.2 r hr).2⟩
 have hl2 : ds.length = vs.length := by have g1 := bn rw'; have g2 := rv.length; omega
 have h64 : vs.length < 64 := by omega
 unfold ksk_rest
 refine wpAny_bind (wpAny_rule ?_)
 first
  | rw [List.forIn_toArray]
  | (rw [← Array.forIn_toList]; simp only [List.toList_toArray])
  | rw [← Array.forIn_toList]
 refine wpAny_bind (ksk_fold (fun i s' => ∃ H' zs, Inv X (pins ++ [(a, seqObj "list" #[] e1)]) σ H' s' ∧ H' kS = some (.lst zs) ∧ (∀ b u, b ≠ kS → H b = some u → H' b = some u) ∧ Reps X.K H' ((rows.map Dv.tup).take i) zs) vs 0 s ⟨H, [], I, hk, fun _ _ _ e => e, rfl⟩ ?step ?done)
 case step =>
  rintro j x s' hx ⟨H', zs, I', hk', sm, rz⟩
  simp only [Nat.zero_add] at rz ⊢
  have hj : j < vs.length := (List.getElem?_eq_some_iff.mp hx).1
  have hjd : ds[j]? = some (ds[j]'(by omega)) := List.getElem?_eq_getElem (by omega)
  obtain ⟨es, er, eF⟩ := hkey j _ hjd
  have hjw : ws[j]? = some (ws[j]'(by have := rv.length; omega)) := List.getElem?_eq_getElem (by have := rv.length; omega)
  have hjl : j < ws.length := by have := rv.length; omega
  have hjl2 : j < ds.length := by omega
  obtain ⟨u, eu, ru⟩ := rv.get hjw
  rw [hx] at eu
  cases eu
  have tupk : ∀ b ys, H b = some (.tup ys) → H' b = some (.tup ys) := fun b ys q => sm b _ (fun z => by rw [z, hk] at q; cases q) q
  have rd : Rep X.K H' ds[j] ws[j] := Rep.tups tupk _ _ (fZ im hjd) (jr rw' j _ _ hjd hjw)
  refine wpAny_bind (wpAny_attempt (wpAny_mono (zP G hr hfr hb I' ru rd h1 eF (E := fun _ _ => False)) (fun u' s2 he => ?_) fun _ _ z => z.elim))
  obtain ⟨v', H2, I2, rv2, sm2, rp2⟩ := he
  dsimp only
  have hk2 : H2 kS = some (.lst zs) := sm2 _ _ hk'
  obtain ⟨z, its, n, rvk, hlk, ek⟩ := I2.lstM hk2
  have hzl : zs.length ≤ 62 := by have := bn rz; simp at this; omega
  have hil : its.length ≤ 62 := by have := rvk.length; omega
  refine wpAny_bind (listUpdate_at ek rfl ?_ (by simp; exact line64 (by omega)) (by simp; omega))
  have tup2 : ∀ b ys, H2 b = some (.tup ys) → (upd H2 kS (.lst (zs ++ [v']))) b = some (.tup ys) := fun b ys q => by
   rw [ao (fun z => by rw [z, hk2] at q; cases q)]; exact q
  obtain ⟨n2, ek2⟩ : ∃ n2, (s2.heap.update kS (Obj.mapSeq (·.push u'))).get? kS = some (seqObj "list" (its.toArray.push u') n2) := ⟨_, get?_update_seq (c := "list") ek (·.push u')⟩
  refine wpAny_pure ⟨rfl, upd H2 kS (.lst (zs ++ [v'])), zs ++ [v'], ?_, ai, fun b u hb q => ?_, ?_⟩
  · refine I2.write (t' := s2.toks) (x := kS) (e := kS) (o := .lst (zs ++ [v'])) (by rw [hk2]; trivial) (.inl rfl) (fun b u hb q => ?_) ⟨_, ek2⟩ ?_
    · rw [Heap.get?_update_ne _ _ _ _ hb]; exact q
    · refine ⟨by simp; exact line64 (by omega), its ++ [u'], n2, rvk.append (.cons rv2 .nil), ?_⟩
      simpa [seqObj] using ek2
  · rw [ao hb]
    exact sm2 _ _ (sm b u hb q)
  · have hrow : (rows.map Dv.tup).take (j + 1) = (rows.map Dv.tup).take j ++ [.tup es] := by
     rw [List.take_add_one, List.getElem?_map, er]
     rfl
    rw [hrow]
    have g1 : Reps X.K (upd H2 kS (.lst (zs ++ [v']))) ((rows.map Dv.tup).take j) zs := Reps.tups tup2 _ _ (kO j imk) (Reps.mono sm2 _ _ rz)
    have ime : imm (.tup es) = true := fZ imk (n := j) (by rw [List.getElem?_map, er]; rfl)
    exact g1.append ⟨v', [], rfl, Rep.tups tup2 _ _ ime rp2, rfl⟩
 case done =>
  rintro s' ⟨H', zs, I', hk', sm, rz⟩
  have rz' : Reps X.K H' (rows.map Dv.tup) zs := by
   rw [List.take_of_length_le (by simp; omega)] at rz
   exact rz
  obtain ⟨z, its, n, rvk, hlk, ek⟩ := I'.lstM hk'
  have hzl : zs.length = vs.length := by have := bn rz'; simp at this; omega
  have hil : its.length = vs.length := by have := rvk.length; omega
  refine wpAny_bind (listItems_at ek rfl ?_)
  obtain ⟨fs, f1, f2⟩ := gG I' (fun r hr' => (hR r hr').2) rz' rvk
  have hpa := I'.pin (a, seqObj "list" #[] e1) (by simp)
  refine Cu (blt := fun i j => ltL (bL rows i) (bL rows j)) (c := n) ek hpa.1 hne hil h64 (qM hR) f1 f2 (fun A2 i j x y ex ey => ?_) fun p out tk o1 o2 o3 o4 => ?_
  · obtain ⟨a1, us1, t1, es1, q1, q2, q3, q4, q5, q6, q7⟩ := kN I' i x rz' rvk ex
    obtain ⟨a2, us2, t2, es2, p1, p2, p3, p4, p5, p6, p7⟩ := kN I' j y rz' rvk ey
    have m1 := hR es1 (List.mem_of_getElem? q1)
    have m2 := hR es2 (List.mem_of_getElem? p1)
    obtain ⟨rs, i1, i2⟩ := jq (A := A2) (m1.1.trans m2.1.symm) m1.2.2 q4 p4 q5 p5
    refine ⟨a1, a2, t1.toArray, t2.toArray, rs, q3, p3, q7, p7, by simpa using i1, ?_⟩
    have hsz : t1.toArray.size = t2.toArray.size := by
     have k1 := q5.length
     have k2 := p5.length
     have k3 := bn q4
     have k4 := bn p4
     have k5 : (sig es1).length = (sig es2).length := by rw [m1.1, m2.1]
     simp [sig] at k5
     simp
     omega
    rw [hsz, decide_eq_false (Nat.lt_irrefl _), i2, dP q1, dP p1]
  · obtain ⟨n2, ek2⟩ : ∃ n2, (s'.heap.update kS (Obj.mapSeq fun _ => #[])).get? kS = some (seqObj "list" #[] n2) := ⟨_, get?_update_seq (c := "list") ek (fun _ => (#[] : Array Value))⟩
    have W := I'.write (t' := tk) (h' := s'.heap.update kS (Obj.mapSeq fun _ => #[])) (x := kS) (e := kS) (o := .lst []) (by rw [hk']; trivial) (.inl rfl) (fun b u hb q => by rw [Heap.get?_update_ne _ _ _ _ hb]; exact q) ⟨_, ek2⟩ ⟨Nat.zero_le _, [], n2, .nil, by simpa [seqObj] using ek2⟩
    have W2 := W.unpinned
    have hna : upd H' kS (.lst []) a = none := by rw [ao hne.symm]; exact hpa.2.1
    have ha2 : (s'.heap.update kS (Obj.mapSeq fun _ => #[])).get? a = some (seqObj "list" #[] e1) := by rw [Heap.get?_update_ne _ _ _ _ hne.symm]; exact hpa.1
    obtain ⟨g0, g1, g2, g3⟩ := fpa _ hna
    have T := W2.turned (t' := tk) (h' := (s'.heap.update kS (Obj.mapSeq fun _ => #[])).update a (Obj.mapSeq fun _ => out)) (it := a) (fun b o hb q => by rw [Heap.get?_update_ne _ _ _ _ hb]; exact q) g0 g1 g3.1 g3.2.1 g3.2.2
    exact h _ _ p out _ T hna (fun b u hb q => by rw [ao hb]; exact sm b u hb q) (get?_update_seq ha2 fun _ => out) o1 o2 o3 o4
end
def dQ (F : List Dv → Option (Rs Dv)) : List Dv → Option (List (List Dv))
 | [] => some []
 | d :: r => match F [d], dQ F r with
  | some (.ok (.tup es)), some rs => some (es :: rs)
  | _, _ => none
def gI (rows : List (List Dv)) (ds : List Dv) : List Dv := (isortB (fun a b => !ltL b.1 a.1) (rows.zip ds)).map Prod.snd
def iD (F : List Dv → Option (Rs Dv)) (ds : List Dv) : Option (Rs Dv) := match dQ F ds with
 | some rows => if ca rows = true ∧ imms ds = true ∧ imms (rows.map Dv.tup) = true then some (.ok (.lst (gI rows ds))) else none
 | none => none
def oA (F : List Dv → Option (Rs Dv)) : List Dv → Option (Rs Dv)
 | [.lst ds] => iD F ds
 | [.tup ds] => iD F ds
 | _ => none
theorem iE {F : List Dv → Option (Rs Dv)} : ∀ {ds : List Dv} {rows : List (List Dv)}, dQ F ds = some rows → rows.length = ds.length ∧ ∀ (i : Nat) (d : Dv), ds[i]? = some d → ∃ es, rows[i]? = some es ∧ F [d] = some (.ok (.tup es))
 | [], rows, h => by cases h; exact ⟨rfl, fun i d e => by simp at e⟩
 | d :: ds, rows, h => by
  unfold dQ at h
  split at h
  · rename_i es rs h1 h2
    cases h
    obtain ⟨g1, g2⟩ := iE h2
    refine ⟨by simp [g1], fun i d' e => ?_⟩
    cases i with
    | zero => simp at e; subst e; exact ⟨es, rfl, h1⟩
    | succ i => exact g2 i d' (by simpa using e)
  · cases h
theorem qN {rows : List (List Dv)} {ds : List Dv} (hl : rows.length = ds.length) : (isortB (fun i j => !(fun i j => ltL (bL rows i) (bL rows j)) j i) (List.range ds.length)).map (fun i => ds.getD i .non) = gI rows ds := by
 have e : (List.range ds.length).map (fun i => (bL rows i, ds.getD i .non)) = rows.zip ds := by
  apply List.ext_getElem
  · simp [hl]
  · intro i h1 h2
    simp only [List.length_map, List.length_range] at h1
    have h1' : i < rows.length := by omega
    simp only [List.getElem_map, List.getElem_range, List.getElem_zip]
    rw [dP (List.getElem?_eq_getElem h1')]
    simp [List.getD, h1]
 unfold gI
 rw [← e, ← sort_map (le := fun i j => !(fun i j => ltL (bL rows i) (bL rows j)) j i) (fun i => (bL rows i, ds.getD i .non)) _ fun x _ y _ => rfl, List.map_map]
 rfl
section
variable {X : Cx} {pins : List (Addr × Obj)} {σ : L2.St} {H : Hp} {s : Shared} {k : Nat} {f : Addr} {fd : FuncData} {ps : List Str} {F : List Dv → Option (Rs Dv)} {A' : Around} {E : Value → Shared → Prop}
theorem qO {h : Heap} {a : Addr} {o : Obj} (e : h.get? a = some o) : br [a] h = [(a, o)] := by simp [br, e]
theorem zR {a : Addr} {n : Nat} {vs : List Value} {ws : List V} {ds : List Dv} {rows : List (List Dv)} {P : PySem.Fin → Shared → Prop}
 (G : FnOk X.prog X.w X.K X.mg X.base CX0 k f fd ps (spF X.K F ps.length)) (hr : Room k A') (hfr : A'.frames = X.A.frames) (hb : Binds X.K fd ps []) (h1 : ps.length = 1)
 (I : Inv X pins σ H s) (ho : s.heap.get? a = some (seqObj "list" vs.toArray n)) (hna : H a = none) (fpa : ∀ H', H' a = none → nV X pins H' a) (rv : Vals ws vs) (rw' : Reps X.K H ds ws) (im : imms ds = true)
 (hkey : ∀ (i : Nat) (d : Dv), ds[i]? = some d → ∃ es, rows[i]? = some es ∧ F [d] = some (.ok (.tup es))) (hlen : rows.length = ds.length) (hok : ca rows = true) (imk : imms (rows.map Dv.tup) = true)
 (h : ∀ (s' : Shared) (H' : Hp) (p : Nat → Nat) (out : Array Value) (c : Nat), Inv X pins σ H' s' → H' a = none → Same H H' → s'.heap.get? a = some (seqObj "list" out c) → out.size = vs.length → (∀ k, k < vs.length → out[k]? = vs[p k]?) →
   (List.range vs.length).map p = isortB (fun i j => !(fun i j => ltL (bL rows i) (bL rows j)) j i) (List.range vs.length) → (∀ k, k < vs.length → p k < vs.length) → P (.done (.ret .none)) s') :
 wpAny (model X.prog X.w) A' (ksk_tree a (.ref f) false) P E s := by
 have h64 : vs.length < 64 := by
  simp only [ca, Bool.and_eq_true, decide_eq_true_eq] at hok
  have g1 := bn rw'; have g2 := rv.length
  omega
 have ha : a < s.heap.objs.size := Heap.lt_size ho
 obtain ⟨g0, g1, g2, g3⟩ := fpa _ hna
 unfold ksk_tree
 refine wpAny_bind (listItems_at ho rfl ?_)
 refine wpAny_bind (listUpdate_at ho rfl ?_ (line64 (by simpa using h64)))
 obtain ⟨e1, ho1⟩ : ∃ e1, (s.heap.update a (Obj.mapSeq fun _ => (#[] : Array Value))).get? a = some (seqObj "list" #[] e1) := ⟨_, get?_update_seq ho fun _ => #[]⟩
 have I1 := I.turned (t' := s.toks) (h' := s.heap.update a (Obj.mapSeq fun _ => (#[] : Array Value))) (it := a) (fun b o hb q => by rw [Heap.get?_update_ne _ _ _ _ hb]; exact q) g0 g1 g3.1 g3.2.1 g3.2.2
 refine wpAny_bind (seqEpoch_at ho1 rfl ?_)
 refine wpAny_bind (wpAny_newTuple ?_ (line64 (by simpa using h64)))
 refine wpAny_bind (wpAny_newList ?_)
 refine wpAny_holding ?_
 have I2 := I1.kept (t' := s.toks) (h' := (s.heap.update a (Obj.mapSeq fun _ => (#[] : Array Value))).push (seqObj "tuple" vs.toArray 0)) fun b u q => Heap.get?_push_of_some _ q
 have sz2 : ((s.heap.update a (Obj.mapSeq fun _ => (#[] : Array Value))).push (seqObj "tuple" vs.toArray 0)).objs.size = s.heap.objs.size + 1 := by rw [size_push', Heap.size_update]
 have fr : H ((s.heap.update a (Obj.mapSeq fun _ => (#[] : Array Value))).push (seqObj "tuple" vs.toArray 0)).objs.size = none := I2.hok.fresh (Nat.le_refl _)
 have I3 := I2.laid (t' := s.toks) (h' := ((s.heap.update a (Obj.mapSeq fun _ => (#[] : Array Value))).push (seqObj "tuple" vs.toArray 0)).push (seqObj "list" #[] 0)) (o := .lst []) (fun b u q => Heap.get?_push_of_some _ q) (Nat.le_refl _) ⟨Nat.zero_le _, [], 0, .nil, Heap.get?_push_size _ rfl⟩
 have ho3 : (((s.heap.update a (Obj.mapSeq fun _ => (#[] : Array Value))).push (seqObj "tuple" vs.toArray 0)).push (seqObj "list" #[] 0)).get? a = some (seqObj "list" #[] e1) := Heap.get?_push_of_some _ (Heap.get?_push_of_some _ ho1)
 have hne : ((s.heap.update a (Obj.mapSeq fun _ => (#[] : Array Value))).push (seqObj "tuple" vs.toArray 0)).objs.size ≠ a := by rw [sz2]; exact Nat.ne_of_gt (Nat.lt_succ_of_lt ha)
 have I4 := I3.pinned (fp := [a]) (fun b hb => by
  have : b = a := by simpa using hb
  subst this
  exact fpa _ (by rw [ao hne.symm]; exact hna)) (fun b hb => by
  have : b = a := by simpa using hb
  subst this
  exact ⟨_, ho3, fun v z => by cases z⟩)
 rw [qO ho3] at I4
 refine zQ G hr hfr hb h1 I4 ai hne rv (Reps.mono (aj fr _) _ _ rw') im hkey hlen hok imk fpa fun s' H' p out c J ja sm e o1 o2 o3 o4 => h s' H' p out c J ja (fun b u q => sm b u (fun z => ?_) ?_) e o1 o2 o3 o4
 · rw [z, fr] at q; cases q
 · rw [ao (fun z => by rw [z, fr] at q; cases q)]; exact q
theorem lS {M : Model} {A : Around} {l : Addr} {vs : List Value} {o : Obj} {n : Nat} {c : String} {Q : List Value → Shared → Prop} {prog : Program} {w : World} (ho : s.heap.get? l = some o) (hc : o.cls = .type c) (hd : o.data = .seq vs.toArray n) (h2 : (Value.type c == Value.type "list" || Value.type c == Value.type "tuple") = true)
 (h : ∀ h', (∀ b o, s.heap.get? b = some o → h'.get? b = some o) → s.heap.objs.size < h'.objs.size → Q vs { s with heap := h' }) (hsz : vs.length ≤ sizeLine) : wpAny (model prog w) A (collect (.ref l)) Q E s := by
 unfold collect
 refine wpAny_bind (wpAny_runValue (codeAny_builtin entry_proto_collect' ?_))
 show wpAny _ _ (do again (.builtin "list.__iadd__" ⟨[← newList [], .ref l], []⟩)) _ _ s
 refine wpAny_bind (wpAny_newList (wpAny_pure ⟨Code.quiet_builtin _ (by decide +kernel), codeAny_builtin entry_list_iadd' ?_⟩))
 show wpAny _ _ (Builtin.List.listExtendWith (.ref s.heap.objs.size) (.ref l) (.ref s.heap.objs.size)) _ _ { s with heap := s.heap.push (seqObj "list" #[] 0) }
 unfold Builtin.List.listExtendWith
 have ho' : (s.heap.push (seqObj "list" #[] 0)).get? l = some o := Heap.get?_push_of_some _ ho
 refine wpAny_bind (wpAny_typeOf (T := c) ⟨o, ho', hc⟩ ?_)
 rw [if_pos (by rw [Bool.or_assoc, h2]; simp)]
 refine wpAny_bind (listItems_at ho' hd ?_)
 refine wpAny_bind (listItems_at (xs := #[]) (n := 0) (Heap.get?_push_size _ rfl) rfl ?_)
 rw [if_neg (by simp)]
 refine wpAny_bind (listUpdate_at (xs := #[]) (n := 0) (Heap.get?_push_size _ rfl) rfl ?_ (Nat.zero_le _) (by simp only [Array.size_append, List.size_toArray, List.length_nil]; show 0 + vs.length ≤ _; omega))
 refine wpAny_pure ?_
 show wpAny (model prog w) A (do
  let o ← load s.heap.objs.size
  match o.data with
  | .seq xs _ => pure xs.toList
  | _ => unsupported "internal:collect") Q E { s with heap := (s.heap.push (seqObj "list" #[] 0)).update s.heap.objs.size (Obj.mapSeq (· ++ vs.toArray)) }
 refine wpAny_bind (wpAny_load (get?_update_seq (Heap.get?_push_size _ rfl) _) ?_)
 show wpAny _ _ (pure ((#[] : Array Value) ++ vs.toArray).toList) Q E _
 rw [show ((#[] : Array Value) ++ vs.toArray).toList = vs by simp]
 refine wpAny_pure (h _ (fun b o' q => ?_) ?_)
 · have := Heap.lt_size q
   rw [Heap.get?_update_ne _ _ _ _ (Nat.ne_of_lt this), Heap.get?_push_ne _ _ _ (Nat.ne_of_lt this)]
   exact q
 · rw [Heap.size_update, size_push']; exact Nat.lt_succ_self _
end
section
variable {X : Cx} {pins : List (Addr × Obj)} {σ : L2.St} {H : Hp} {s : Shared} {k : Nat} {f : Addr} {fd : FuncData} {ps : List Str} {F : List Dv → Option (Rs Dv)} {E : Value → Shared → Prop}
theorem tY {l : Addr} {o : Obj} {n : Nat} {c : String} {vs : List Value} {ws : List V} {ds : List Dv} {rows : List (List Dv)} {Q : VK}
 (G : FnOk X.prog X.w X.K X.mg X.base CX0 k f fd ps (spF X.K F ps.length)) (hr : Room (k + 2) X.A) (hb : Binds X.K fd ps []) (h1 : ps.length = 1)
 (I : Inv X pins σ H s) (ho : s.heap.get? l = some o) (hc : o.cls = .type c) (hd : o.data = .seq vs.toArray n) (h2 : (Value.type c == Value.type "list" || Value.type c == Value.type "tuple") = true) (rv : Vals ws vs) (rw' : Reps X.K H ds ws)
 (hkr : dQ F ds = some rows) (hok : ca rows = true) (im : imms ds = true) (imk : imms (rows.map Dv.tup) = true)
 (q : ∀ (L : Addr) (ws' : List V) (H' : Hp), Same H H' → H' L = some (.lst ws') → Reps X.K H' (gI rows ds) ws' → Q (.ref L) H') :
 wpAny (model X.prog X.w) X.A (call (.builtin "sorted") [.ref l] [(Str.ofString "key", .ref f)]) (EP X pins σ Q) E s := by
 obtain ⟨hlen, hkey⟩ := iE hkr
 have hws : ds.length = ws.length := bn rw'
 have hvs : ws.length = vs.length := rv.length
 have h64 : vs.length < 64 := by
  simp only [ca, Bool.and_eq_true, decide_eq_true_eq] at hok
  omega
 refine call_function_entry_kw kind_sorted plain_sorted entry_sorted (ksk_s1 _ _) ?_
 unfold Builtin.«sorted»
 refine wpAny_bind (m := checkCount "sorted" 1 1 _) (wpAny_pure ?_)
 refine wpAny_bind (lS (M := model X.prog X.w) ho hc hd h2 (fun h1' up gr => ?_) (line64 h64))
 refine wpAny_bind (wpAny_newList ?_ (line64 h64))
 have I1 := I.kept (t' := s.toks) (h' := h1'.push (seqObj "list" vs.toArray 0)) fun b u z => Heap.get?_push_of_some _ (up b u z)
 have hoL : (h1'.push (seqObj "list" vs.toArray 0)).get? h1'.objs.size = some (seqObj "list" vs.toArray 0) := Heap.get?_push_size _ rfl
 have hfr : H h1'.objs.size = none := I.hok.fresh (Nat.le_of_lt gr)
 have fpa : ∀ H', H' h1'.objs.size = none → nV X pins H' h1'.objs.size := fun H' hn => I.fpOk (Nat.le_of_lt gr) hn
 refine wpAny_bind (wpAny_holding (wpAny_call_entry_kw slot_list_sort ⟨_, hoL, rfl⟩ entry_list_sort ?body (ksk_l1 _ _)))
 case body =>
  show wpAny (model X.prog X.w) X.A.in1.in1 (Builtin.«list.sort» ⟨[.ref h1'.objs.size], [(Str.ofString "key", .ref f)]⟩) _ _ _
  rw [ksk_t1]
  refine zR (s := { s with heap := h1'.push (seqObj "list" vs.toArray 0) }) G (hr.in1.in1) rfl hb h1 I1 hoL hfr fpa rv rw' im hkey hlen hok imk fun s' H' p out cc J ja sm e o1 o2 o3 o4 => ⟨_, rfl, ?_⟩
  refine wpAny_pure ⟨_, rfl, ?_⟩
  obtain ⟨g0, g1, g2, g3, g4, g5⟩ := fpa _ ja
  have J2 := J.pinned (fp := [h1'.objs.size]) (fun b hb' => by
   have : b = h1'.objs.size := by simpa using hb'
   subst this
   exact fpa _ ja) (fun b hb' => by
   have : b = h1'.objs.size := by simpa using hb'
   subst this
   exact ⟨_, e, fun v z => by cases z⟩)
  rw [qO e] at J2
  have hV : Vals ((List.range vs.length).map fun k => ws.getD (p k) .non) out.toList := by
   refine iC (by simp [o1]) fun i v u ev eu => ?_
   have hi : i < vs.length := by
    have := (List.getElem?_eq_some_iff.mp eu).1
    simp [o1] at this
    omega
   have eu' : out[i]? = some u := by simpa using eu
   rw [o2 i hi] at eu'
   rw [List.getElem?_map, List.getElem?_range hi] at ev
   simp only [Option.map_some, Option.some.injEq] at ev
   have hp : p i < ws.length := by rw [hvs]; exact o4 i hi
   have e1 : ws[p i]? = some v := by rw [List.getElem?_eq_getElem hp, ← ev]; simp [List.getD, hp]
   obtain ⟨u', e2, r2⟩ := rv.get e1
   rw [e2] at eu'
   cases eu'
   exact r2
  have hR : Reps X.K H' (gI rows ds) ((List.range vs.length).map fun k => ws.getD (p k) .non) := by
   have hn : vs.length = ds.length := by omega
   rw [← qN hlen, ← hn, ← o3, List.map_map]
   refine iB (by simp) fun i d v ed ev => ?_
   have hi : i < vs.length := by
    have := (List.getElem?_eq_some_iff.mp ed).1
    simpa using this
   rw [List.getElem?_map, List.getElem?_range hi] at ed ev
   simp only [Option.map_some, Option.some.injEq, Function.comp] at ed ev
   have hp : p i < ws.length := by rw [hvs]; exact o4 i hi
   have hp' : p i < ds.length := by omega
   refine jr (Reps.mono sm _ _ rw') (p i) d v ?_ ?_
   · rw [List.getElem?_eq_getElem hp', ← ed]; simp [List.getD, hp']
   · rw [List.getElem?_eq_getElem hp, ← ev]; simp [List.getD, hp]
  have e' : (h1'.objs.size, seqObj "list" out cc) = (h1'.objs.size, wp out.toList cc) := by simp [seqObj, wp]
  rw [e'] at J2
  obtain ⟨ha', J3⟩ := Inv.retrack J2 hV (line64 (by simp; omega)) (fun o' z => by
   exfalso
   rcases g3 with g3 | g3
   · exact absurd (I.ok) (fun _ => by
      have := Heap.get?_none_of_le (h := X.s₀.heap) (a := h1'.objs.size) (Nat.le_trans I.sz (Nat.le_of_lt gr))
      rw [this] at z
      cases z)
   · have := Heap.get?_none_of_le (h := X.s₀.heap) (a := h1'.objs.size) g3
     rw [this] at z
     cases z) g5
  refine ⟨.ref h1'.objs.size, _, J3, rfl, q _ _ _ (fun b u z => ?_) ai (Reps.mono (aj ja _) _ _ hR)⟩
  exact aj ja _ b u (sm b u z)
end
section
variable {X : Cx} {k' n : Nat} {ps : List Str} {x : Str} {p p2 kp pos : Pos} {e : Expr} {F : List Dv → Option (Rs Dv)} {g : FnA}
theorem tZ (k : Nat) (ps : List Str) (F : List Dv → Option (Rs Dv)) (h : Has X.prog X.w X.K X.mg X.base x k ps F) (hr : Room k' X.A) (hk : k + 2 ≤ k') (h1 : ps.length = 1) (hg : Gl X "sorted") (hm : X.mg "sorted" = none) (hgx : Gl X x) (ha : FA X [e] g)
 (hdb : (x == ("__debug__" : Str)) = false := by kernel_rfl)
 (he : backTo pos (starEach [e] X.env) = (false, eval e X.env) :: backTo pos (starEach [] X.env) := by kernel_rfl)
 (hplain : (backTo pos (starEach [e] X.env)).any (·.1) = false := by kernel_rfl)
 (hall : (backToKw pos (keywordEach [⟨some "key", .Name x p2, kp⟩] X.env)).all (·.1.isSome) = true := by kernel_rfl)
 (hkw : (backToKw pos (keywordEach [⟨some "key", .Name x p2, kp⟩] X.env)).any (·.1.isNone) = false := by kernel_rfl)
 (hnm : (backToKw pos (keywordEach [⟨some "key", .Name x p2, kp⟩] X.env)).filterMap (·.1) = [Str.ofString "key"] := by kernel_rfl) :
 FE X (.Call (.Name "sorted" p) [e] [⟨some "key", .Name x p2, kp⟩] pos) (fB1 (oA F) g) := ⟨fun pins s σ H Q I ⟨ρ, E, o⟩ => by
 obtain ⟨f, fd, G, hmx, hkp, hb⟩ := h
 refine wpAny_Call_Name_kw (cW I hg hm (u := .builtin "sorted") (by decide +kernel) ?_ (by decide) (by decide))
 refine callWith_kw (thn (ha.h pos pins s σ H _ I ⟨ρ, E, OutA.bind o fun ds vs H1 e1 rs o1 => (show ∃ ds, Reps X.K H1 ds vs ∧ Out X H1 (oA F ds) Q from ⟨ds, rs, o1⟩)⟩) fun us s1 ⟨vs, H1, I1, r1, ds, rs, o1⟩ => ?_) he hplain hall hkw
 refine kws_cons (lC I1 hgx hmx (kws_nil ?_) hdb)
 rw [hnm]
 show wpAny _ _ (call (.builtin "sorted") us [(Str.ofString "key", .ref f)]) _ _ s1
 unfold oA at o1
 have fin : ∀ (l : Addr) (xs : List V) (es : List Dv) (ob : Obj) (n : Nat) (c : String) (its : List Value), s1.heap.get? l = some ob → ob.cls = .type c → ob.data = .seq its.toArray n → (Value.type c == Value.type "list" || Value.type c == Value.type "tuple") = true → Vals xs its → Reps X.K H1 es xs → Out X H1 (iD F es) Q →
  wpAny (model X.prog X.w) X.A (call (.builtin "sorted") [.ref l] [(Str.ofString "key", .ref f)]) (EP X pins σ Q) X.xe s1 := by
  intro l xs es ob n c its q1 q2 q3 q4 rv rx o2
  unfold iD at o2
  split at o2
  · rename_i rows hrows
    split at o2
    · rename_i hcond
      exact tY G (hr.mono hk) hb h1 I1 q1 q2 q3 q4 rv rx hrows hcond.1 hcond.2.1 hcond.2.2 fun L ws' H' sm hL rw' => o2 _ _ sm ⟨L, ws', rfl, hL, rw'⟩
    · exact o2.elim
  · exact o2.elim
 split at o1
 · rename_i es
   obtain ⟨v, rfl, r⟩ := bx rs
   obtain ⟨l, xs, rfl, hl, rx⟩ := r.lstE
   obtain ⟨u, rfl, ru⟩ := b5 r1
   cases (show u = Value.ref l from ru)
   obtain ⟨z, its, n, rv, hz, eh⟩ := I1.lstM hl
   exact fin l xs es _ n "list" its eh rfl rfl rfl rv rx o1
 · rename_i es
   obtain ⟨v, rfl, r⟩ := bx rs
   obtain ⟨l, xs, rfl, hl, rx⟩ := r.tupE
   obtain ⟨u, rfl, ru⟩ := b5 r1
   cases (show u = Value.ref l from ru)
   obtain ⟨its, rv, ⟨ob, q1, q2, n, q3⟩, hz⟩ := I1.tuple (SqT.of hl)
   exact fin l xs es ob n "tuple" its q1 q2 q3 rfl rv rx o1
 · exact o1.elim⟩
end
end FD
namespace FD
open PySem PySem.Spec PyProof.Rows L2
def Bk : List Dv → Option (Rs Dv)
 | [.lst xs] => (match c7 xs with | some ns => some (.ok (.int ns.sum)) | none => none)
 | _ => none
theorem gJ (ns : List Int) : ∀ n, preSum (fun i => ns.getD i 0) n = (ns.take n).sum
 | 0 => by simp [preSum]
 | n + 1 => by
  rw [PySem.sum_take_succ, ← gJ ns n]
  rfl
section
variable {X : Cx} {p pos : Pos} {e : Expr} {es : List Expr} {ga : FnA}
theorem qP : CallR X (.builtin "sum") (fun xs H Q => ∃ a ws ds ns, xs = [.ref a] ∧ H a = some (.lst ws) ∧ Reps X.K H ds ws ∧ c7 ds = some ns ∧ X.calm = true ∧ Q (.int ns.sum) H) := by
 intro pins s σ H xs us Q I r h
 obtain ⟨a, ws, ds, ns, rfl, h1, h2, hi, hc, q⟩ := h
 obtain ⟨u, rfl, ru⟩ := b5 r
 cases ru
 obtain ⟨z, its, ep, rv, hl, e⟩ := I.lstM h1
 have hI := jo hi h2 rv
 have hL : s.heap.IsList a its.toArray := ⟨_, e, rfl, ep, rfl⟩
 have hlt : a < s.heap.objs.size := Heap.lt_size e
 have hn : its.length = ns.length := hI.length.symm ▸ rfl
 refine call_sum_walkAnyS (wpAny_pyIter_list hL ?_)
 refine ⟨s.heap.objs.size, [s.heap.objs.size, a], [s.heap.objs.size], _, its.toArray.size, _, _, fun i => ns.getD i 0, rfl, (Walks.list (A := X.A.in1) (I.ok.hd hc) _ a (Nat.ne_of_lt hlt) its.toArray).toS,
  ⟨⟨_, Heap.get?_push_size _ rfl, rfl, rfl⟩, hL.push _⟩, fun b hb => ?_, fun i v hP => ?_, fun s' t' hm => ?_⟩
 · rw [Heap.size_push]
   simp only [List.mem_cons, List.not_mem_nil, or_false] at hb
   rcases hb with hb | hb
   · subst hb; exact Nat.lt_succ_self _
   · subst hb; exact Nat.lt_succ_of_lt hlt
 · have hP' : its[i]? = some v := by simpa using hP
   have hil : i < ns.length := by have := (List.getElem?_eq_some_iff.mp hP').1; omega
   obtain ⟨t, ht⟩ := hI.get i ns[i] (List.getElem?_eq_getElem hil)
   rw [ht] at hP'
   cases hP'
   exact ⟨t, by simp [List.getD, hil]⟩
 · rw [gJ, List.size_toArray, hn, List.take_of_length_le (Nat.le_refl _)]
   obtain ⟨h', g', d', tk', os'⟩ := s'
   have eg : g' = s.gens := hm.gens
   have ed : d' = s.drawn := hm.drawn
   have eo : os' = s.os := hm.os
   subst eg; subst ed; subst eo
   exact ⟨.int ns.sum, H, I.kept (t' := tk') fun b o q => hm.heap b o (by simp; exact Nat.ne_of_lt (Heap.lt_size q)) (Heap.get?_push_of_some _ q), ⟨_, rfl⟩, q⟩
theorem zS (hc : X.calm = true) (hg : Gl X "sum") (hm : X.mg "sum" = none) (ha : FA X (e :: es) ga) (he : starEach (e :: es) X.env = (false, eval e X.env) :: starEach es X.env := by kernel_rfl) (hpl : (backTo pos (starEach es X.env)).any (·.1) = false := by kernel_rfl) : FE X (.Call (.Name "sum" p) (e :: es) [] pos) (fB1 Bk ga) :=
 bu (cG qP hg hm (by decide +kernel) ha.h (by decide) (by decide) he hpl) fun σ H Q ρ E o => ⟨ρ, E, OutA.bind o fun ds vs H1 e1 rs o1 => by
  unfold Bk at o1
  split at o1
  · rename_i xs
    obtain ⟨v, rfl, r⟩ := bx rs
    obtain ⟨a, ws, rfl, h1, h2⟩ := r.lstE
    split at o1
    · rename_i ns hb
      exact ⟨a, ws, xs, ns, rfl, h1, h2, hb, hc, o1 _ H1 (.refl H1) rfl⟩
    · exact o1.elim
  · exact o1.elim⟩
end
end FD
namespace TS
open PySem PySem.Spec PyProof.Rows L2 FD
def u8 (p q : Value) (e l : Bool) : Prop := ∀ (prog : Program) (w : World) (A : Around) (E : Value → Shared → Prop) (s : Shared),
 (∀ Q : Bool → Shared → Prop, Q e s → wpAny (model prog w) A (eqBool p q) Q E s) ∧ (∀ Q : Value → Shared → Prop, Q (.bool l) s → wpAny (model prog w) A (richCompare .Lt p q) Q E s)
inductive gK : List (Value × Value) → List (Bool × Bool) → Prop
 | nil : gK [] []
 | cons {p q : Value} {e l : Bool} {ps : List (Value × Value)} {rs : List (Bool × Bool)} : u8 p q e l → gK ps rs → gK ((p, q) :: ps) ((e, l) :: rs)
theorem kP {K : PySem.W.Frag} {H : Hp} : ∀ {es es' : List Dv} {us us' : List V} {tis tis' : List Value}, sig es = sig es' → cx (sig es) = true → Reps K H es us → Reps K H es' us' → Vals us tis → Vals us' tis' →
 ∃ rs, gK (tis.zip tis') rs ∧ (bN rs).getD false = ltL es es'
 | [], [], us, us', tis, tis', _, _, r, r', v, v' => by
  cases (show us = [] from r)
  cases v
  exact ⟨[], .nil, rfl⟩
 | x :: es, y :: es', us, us', tis, tis', s, hk, r, r', v, v' => by
  obtain ⟨u, us1, rfl, r1, r2⟩ : ∃ v us1, us = v :: us1 ∧ Rep K H x v ∧ Reps K H es us1 := r
  obtain ⟨u', us1', rfl, r1', r2'⟩ : ∃ v us1, us' = v :: us1 ∧ Rep K H y v ∧ Reps K H es' us1 := r'
  simp only [sig, List.map_cons, List.cons.injEq] at s
  simp only [sig, cx, List.map_cons, List.all_cons, Bool.and_eq_true, bne_iff_ne, ne_eq] at hk
  cases v with
  | cons v1 v2 =>
   cases v' with
   | cons v1' v2' =>
    obtain ⟨rs, i1, i2⟩ := kP s.2 (by simpa [cx, sig] using hk.2) r2 r2' v2 v2'
    rename_i b1 l1 b2 l2
    have one : ∀ (p q : Value) (e l : Bool), u8 p q e l → (if e = true then ltL es es' else l) = ltL (x :: es) (y :: es') → ∃ rs, gK ((p, q) :: l1.zip l2) rs ∧ (bN rs).getD false = ltL (x :: es) (y :: es') := fun p q e l h z =>
     ⟨(e, l) :: rs, .cons h i1, by rw [bU, i2]; exact z⟩
    cases x with
    | str a =>
     cases y with
     | str b =>
      cases (show u = .str a from r1)
      cases (show u' = .str b from r1')
      obtain ⟨t, rfl⟩ := v1
      obtain ⟨t', rfl⟩ := v1'
      exact one _ _ _ _ (fun prog w A E s => ⟨(m8 A a b t t' prog w E s).1, fun Q h => (PyProof.Rows.lt_str h : wpAny (model prog w) A (compareOp .Lt (.str a t) (.str b t')) Q E s)⟩) rfl
     | _ => exact absurd s.1 (by simp [kdI])
    | int a =>
     cases y with
     | int b =>
      cases (show u = .int a from r1)
      cases (show u' = .int b from r1')
      obtain ⟨t, rfl⟩ := v1
      obtain ⟨t', rfl⟩ := v1'
      exact one _ _ _ _ (fun prog w A E s => ⟨(na A a b t t' prog w E s).1, fun Q h => (PyProof.Rows.lt_int h : wpAny (model prog w) A (compareOp .Lt (.int a t) (.int b t')) Q E s)⟩) rfl
     | _ => exact absurd s.1 (by simp [kdI])
    | bl a =>
     cases y with
     | bl b =>
      cases (show u = .bl a from r1)
      cases (show u' = .bl b from r1')
      cases v1
      cases v1'
      exact one _ _ _ _ (fun prog w A E s => ⟨(qD A a b prog w E s).1, fun Q h => (PyProof.Rows.lt_bool h : wpAny (model prog w) A (compareOp .Lt (.bool a) (.bool b)) Q E s)⟩) rfl
     | _ => exact absurd s.1 (by simp [kdI])
    | _ => exact absurd rfl hk.1
 | [], _ :: _, _, _, _, _, s, _, _, _, _, _ => by simp [sig] at s
 | _ :: _, [], _, _, _, _, s, _, _, _, _, _ => by simp [sig] at s
section
open PySem.SeqAt
open PySem.AutoSeq1 (wpAny_loadPart')
open PySem.MeetsSeq PySem.MeetsSeq2 PySem.MeetsSeq3
theorem qQ (l b : Addr) (items items2 : Array Value) (n n2 : Nat) (dd dd2 : Option Addr) (sl sl2 : Array (Option Value)) (rs : List (Bool × Bool)) (hi : gK (items.toList.zip items2.toList) rs) (hz : items.size = items2.size) :
 Meets (Builtin.«tuple.__lt__» ⟨[.ref l, .ref b], []⟩)
  (fun _ R s => s.heap.get? l = some { cls := .type "tuple", dict := dd, data := .seq items n, slots := sl } ∧ s.heap.get? b = some { cls := .type "tuple", dict := dd2, data := .seq items2 n2, slots := sl2 } ∧
    R (.ok (.ret (.bool ((bN rs).getD false)))) s) :=
 .of_wp fun prog w A R s h => by
  obtain ⟨hp, g, d, tk, os⟩ := s; obtain ⟨hl, hb, h⟩ := h
  have f2 := AutoSeq1.sub_tuple_tuple
  wp_walk using wpAny_loadPart' hl, wpAny_loadPart' hb, wpAny_forIn_list _ (fun rest b s' => b.1 = none ∧ s' = ⟨hp, g, d, tk, os⟩ ∧ ∃ rs', gK rest rs' ∧ R (.ok (.ret (.bool ((bN rs').getD false)))) ⟨hp, g, d, tk, os⟩) _
  case turn =>
   rintro ⟨y, x⟩ rest b s' ⟨hb', rfl, rs', hI, hR⟩
   cases hI with
   | cons i r =>
    rename_i e lw rs''
    rw [bU] at hR
    refine wpAny_bind ((i prog w _ _ _).1 _ ?_)
    cases e with
    | true =>
     wp_walk
     exact ⟨rfl, rfl, _, r, by simpa using hR⟩
    | false =>
     have hri := fun Q h => (i prog w A.in1 (fun e s' => R (.error e) s') ⟨hp, g, d, tk, os⟩).2 Q h
     wp_walk using hri
     exact ⟨_, rfl, by simpa using hR⟩
  case fin =>
   rintro ⟨b1, b2⟩ s' ⟨hb', rfl, rs', hI, hR⟩
   simp only at hb'
   subst hb'
   cases hI
   wp_walk
   exact ⟨_, rfl, by simpa [Builtin.Tuple.tupleCompareSizes, hz, bN] using hR⟩
  case h =>
   exact ⟨rfl, rfl, rs, hi, h⟩
end
end TS
namespace FD
open PySem PySem.Spec PyProof.Rows L2 TS
def ltT : Dv → Dv → Option (Rs Dv)
 | .tup xs, .tup ys => if sig xs = sig ys ∧ cx (sig xs) = true then some (.ok (.bl (ltL xs ys))) else none
 | _, _ => none
def Du (K : PySem.W.Frag) : R2 := fun x y H Q => ∃ a b us us' es es', x = .ref a ∧ y = .ref b ∧ H a = some (.tup us) ∧ H b = some (.tup us') ∧ Reps K H es us ∧ Reps K H es' us' ∧ sig es = sig es' ∧ cx (sig es) = true ∧ Q (.bl (ltL es es')) H
section
variable {X : Cx}
theorem Cv (hu : X.A.units + 64 < cLine) : OpR X (compareOp .Lt) (Du X.K) := by
 intro pins s σ H x y v u Q I rx ry h
 obtain ⟨a, b, us, us', es, es', rfl, rfl, ha, hb, r, r', hs, hk, q⟩ := h
 cases rx
 cases ry
 obtain ⟨its, r1, p1, _⟩ := I.tuple (SqT.of ha)
 obtain ⟨its2, r2, p2, _⟩ := I.tuple (SqT.of hb)
 obtain ⟨rs, i1, i2⟩ := kP hs hk r r' r1 r2
 obtain ⟨⟨cls, dd, data, sl⟩, ho, hc, n, hd⟩ := id p1
 obtain ⟨⟨cls2, dd2, data2, sl2⟩, ho2, hc2, n2, hd2⟩ := id p2
 simp only at hc hd hc2 hd2
 subst hc hd hc2 hd2
 have hz : its.toArray.size = its2.toArray.size := by
  have e1 := r1.length
  have e2 := r2.length
  have e3 := r.length
  have e4 := r'.length
  have e5 := congrArg List.length hs
  simp only [sig, List.length_map] at e5
  simp only [List.size_toArray]
  omega
 rw [← i2] at q
 exact richCompare_meets_room (op := .Lt) ⟨_, ho, rfl⟩ ⟨_, ho2, rfl⟩ PySem.F.slot_tuple_lt PySem.F.entry_tuple_lt (PySem.F.args_tuple_lt_2 _ _) (qQ a b its.toArray its2.toArray n n2 dd dd2 sl sl2 rs i1 hz)
  ⟨ho, ho2, show Value.bool ((bN rs).getD false) ≠ Value.notImplemented ∧ _ from ⟨(fun x => nomatch x), .bl ((bN rs).getD false), H, I, rfl, q⟩⟩ (by omega)
theorem Cw : GOp X (Du X.K) ltT := by
 intro dx dy x y H Q rx ry o
 cases dx <;> cases dy <;> try exact (show False from o).elim
 rename_i xs ys
 by_cases h : sig xs = sig ys ∧ cx (sig xs) = true
 · have o : Out X H (some (.ok (.bl (ltL xs ys)))) Q := by
    have e : ltT (.tup xs) (.tup ys) = some (.ok (.bl (ltL xs ys))) := if_pos h
    rwa [e] at o
   obtain ⟨a, us, rfl, ha, r⟩ := rx.tupE
   obtain ⟨b, us', rfl, hb, r'⟩ := ry.tupE
   exact ⟨a, b, us, us', xs, ys, rfl, rfl, ha, hb, r, r', h.1, h.2, o _ H (.refl H) rfl⟩
 · have e : ltT (.tup xs) (.tup ys) = none := if_neg h
   rw [e] at o
   exact o.elim
end
end FD
namespace FD
open PySem PySem.Spec PyProof.Rows L2
abbrev bP := List (Str × Nat × List Str × (List Dv → Option (Rs Dv)))
theorem kQ {β : Type} {x y : Str} {e e' : β} {T : List (Str × β)} (h : ((y, e) :: T).lookup x = some e') : (x = y ∧ e' = e) ∨ T.lookup x = some e' := by
 rw [List.lookup_cons] at h
 split at h
 · rename_i hb
   exact .inl ⟨eq_of_beq hb, by cases h; rfl⟩
 · exact .inr h
section
variable {P : Program} {w : World} {K : PySem.W.Frag} {mg : Str → Option Value} {base : Heap} {T : bP} {y : Str} {k : Nat} {ps : List Str} {F : List Dv → Option (Rs Dv)}
structure HA (P : Program) (w : World) (K : PySem.W.Frag) (mg : Str → Option Value) (base : Heap) (T : bP) : Prop where
 h : ∀ x e, T.lookup x = some e → Has P w K mg base x e.1 e.2.1 e.2.2
structure HAE (P : Program) (w : World) (K : PySem.W.Frag) (mg : Str → Option Value) (base : Heap) (T : bP) : Prop where
 h : ∀ x e, T.lookup x = some e → DZ P w K mg base x e.1 e.2.1 e.2.2
structure HAM (P : Program) (w : World) (K : PySem.W.Frag) (mg : Str → Option Value) (base : Heap) (T : bP) : Prop where
 h : ∀ x e, T.lookup x = some e → D4 P w K mg base x e.1 e.2.1 e.2.2
theorem zT : HA P w K mg base [] := ⟨fun _ _ h => by cases h⟩
theorem ak (h : Has P w K mg base y k ps F) (t : HA P w K mg base T) : HA P w K mg base ((y, k, ps, F) :: T) := ⟨fun x e q => by
 rcases kQ q with ⟨rfl, rfl⟩ | q
 · exact h
 · exact t.h x e q⟩
abbrev zU := List (Str × Option Dv)
def cN (s : String) : Str × Option Dv := (Str.ofString s, none)
def cI (s : String) (i : Int) : Str × Option Dv := (Str.ofString s, some (.int i))
def cS (s z : String) : Str × Option Dv := (Str.ofString s, some (.str (Str.ofString z)))
def Ea (mg : Str → Option Value) (x : Str) : Option Dv → Prop
 | none => mg x = none
 | some (.int i) => ∃ t, mg x = some (.int i t)
 | some (.str z) => ∃ t, mg x = some (.str z t)
 | _ => False
structure MA (mg : Str → Option Value) (C : zU) : Prop where
 h : ∀ x o, C.lookup x = some o → Ea mg x o
theorem MA.no {C : zU} {x : Str} (h : MA mg C) (e : C.lookup x = some none) : mg x = none := h.h x none e
def Cy (K : PySem.W.Frag) (q : Str × Option Dv) : Bool := match q.2, PySem.W.nsIn K mainGlobals q.1 with
 | none, some none => true
 | some (.int i), some (some (.int j _)) => i == j
 | some (.str z), some (some (.str y _)) => z == y
 | _, _ => false
theorem zV {h : Heap} (X : K.In h) (G : h.Ns mainGlobals mg) : ∀ (C : zU), C.all (Cy K) = true → MA mg C
 | [], _ => ⟨fun x o q => by cases q⟩
 | (y, o) :: C, e => ⟨fun x o' q => by
  rw [List.all_cons, Bool.and_eq_true] at e
  rcases kQ q with ⟨rfl, rfl⟩ | q
  · have h1 := e.1
    unfold Cy at h1
    dsimp only at h1
    split at h1
    · rename_i e1
      exact PySem.W.mg_none_of X G e1
    · rename_i i j t e1
      have hij : i = j := eq_of_beq h1
      subst hij
      exact ⟨t, PySem.W.mg_of X G e1⟩
    · rename_i z y t e1
      have hij : z = y := eq_of_beq h1
      subst hij
      exact ⟨t, PySem.W.mg_of X G e1⟩
    · cases h1
  · exact (zV X G C e.2).h x o' q⟩
end
section
variable {X : Cx} {T : bP} {C : zU} {k' n : Nat} {x : Str} {p pos : Pos} {e : Expr} {es : List Expr} {F : List Dv → Option (Rs Dv)} {g : FnA}
theorem ua (hT : HA X.prog X.w X.K X.mg X.base T) (hr : Room k' X.A) (hF : (T.lookup x).map (fun q => q.2.2) = some F) (ha : FA X (e :: es) g) (hk : ((T.lookup x).all fun q => Nat.ble q.1 k' && Nat.beq n q.2.1.length) = true := by kernel_rfl) (hg : X.env.kindOf x = some .globalImplicit := by kernel_rfl) (hdb : (x == ("__debug__" : Str)) = false := by kernel_rfl)
 (he : starEach (e :: es) X.env = (false, eval e X.env) :: starEach es X.env := by kernel_rfl) (hpl : (backTo pos (starEach es X.env)).any (·.1) = false := by kernel_rfl) :
 FE X (.Call (.Name x p) (e :: es) [] pos) (ah F n g) := by
 cases hq : T.lookup x with
 | none => rw [hq] at hF; cases hF
 | some q =>
  rw [hq] at hF hk
  cases hF
  rw [Option.all_some, Bool.and_eq_true] at hk
  exact sM q.1 q.2.1 q.2.2 (hT.h x q hq) hr (Nat.le_of_ble_eq_true hk.1) hg ha (Nat.eq_of_beq_eq_true hk.2) hdb he hpl
theorem qR {p2 kp : Pos} (hT : HA X.prog X.w X.K X.mg X.base T) (hM : MA X.mg C) (hr : Room k' X.A) (hF : (T.lookup x).map (fun q => q.2.2) = some F) (ha : FA X [e] g) (hk : ((T.lookup x).all fun q => Nat.ble (q.1 + 2) k' && Nat.beq q.2.1.length 1) = true := by kernel_rfl) (hg : X.env.kindOf (Str.ofString "sorted") = some .globalImplicit := by kernel_rfl) (hm : C.lookup (Str.ofString "sorted") = some none := by kernel_rfl) (hgx : X.env.kindOf x = some .globalImplicit := by kernel_rfl)
 (hdb : (x == ("__debug__" : Str)) = false := by kernel_rfl)
 (he : backTo pos (starEach [e] X.env) = (false, eval e X.env) :: backTo pos (starEach [] X.env) := by kernel_rfl)
 (hplain : (backTo pos (starEach [e] X.env)).any (·.1) = false := by kernel_rfl)
 (hall : (backToKw pos (keywordEach [⟨some "key", .Name x p2, kp⟩] X.env)).all (·.1.isSome) = true := by kernel_rfl)
 (hkw : (backToKw pos (keywordEach [⟨some "key", .Name x p2, kp⟩] X.env)).any (·.1.isNone) = false := by kernel_rfl)
 (hnm : (backToKw pos (keywordEach [⟨some "key", .Name x p2, kp⟩] X.env)).filterMap (·.1) = [Str.ofString "key"] := by kernel_rfl) :
 FE X (.Call (.Name "sorted" p) [e] [⟨some "key", .Name x p2, kp⟩] pos) (fB1 (oA F) g) := by
 cases hq : T.lookup x with
 | none => rw [hq] at hF; cases hF
 | some q =>
  rw [hq] at hF hk
  cases hF
  rw [Option.all_some, Bool.and_eq_true] at hk
  exact tZ q.1 q.2.1 q.2.2 (hT.h x q hq) hr (Nat.le_of_ble_eq_true hk.1) (Nat.eq_of_beq_eq_true hk.2) hg (hM.no hm) hgx ha hdb he hplain hall hkw hnm
theorem Cz {i : Int} (hM : MA X.mg C) (hl : C.lookup x = some (some (.int i))) (hg : X.env.kindOf x = some .globalImplicit := by kernel_rfl) (hd : (x == ("__debug__" : Str)) = false := by kernel_rfl) : FE X (.Name x pos) (fC (.int i)) :=
 let ⟨_, h⟩ := hM.h x _ hl
 vK hg h hd
theorem CB {z : Str} (hM : MA X.mg C) (hl : C.lookup x = some (some (.str z))) (hg : X.env.kindOf x = some .globalImplicit := by kernel_rfl) (hd : (x == ("__debug__" : Str)) = false := by kernel_rfl) : FE X (.Name x pos) (fC (.str z)) :=
 let ⟨_, h⟩ := hM.h x _ hl
 vL hg h hd
def ndB : List Str → Bool
 | [] => true
 | x :: r => !(r.contains x) && ndB r
theorem gL : ∀ {l : List Str}, ndB l = true → l.Nodup
 | [], _ => List.nodup_nil
 | x :: r, h => by
  unfold ndB at h
  rw [Bool.and_eq_true] at h
  refine List.nodup_cons.2 ⟨fun hx => ?_, gL h.2⟩
  have h1 := h.1
  rw [List.contains_iff_mem.2 hx] at h1
  cases h1
def oO (sc : Scope) (x : Str) : Bool := match sc.names.lookup x with
 | some .local => true
 | some .cell => true
 | _ => false
theorem eD {sc : Scope} {x : Str} (h : oO sc x = true) : Loc sc x := by
 unfold oO at h
 split at h
 · exact .inl ‹_›
 · exact .inr ‹_›
 · cases h
def u9 (osc scope : Scope) (cs : List (Str × Nat)) (N : List Str) : Bool :=
 decide (scope.kind = .function) && decide (∀ y ∈ scope.names, y.2 ≠ .cell) && decide (∀ y ∈ scope.names, y.2 = .local → scope.names.lookup y.1 = some .local) && decide (∀ y ∈ scope.names, y.2 = .free → osc.names.lookup y.1 = some .cell ∨ osc.names.lookup y.1 = some .free) && decide (∀ c ∈ cs, N[c.2]? = some c.1 ∧ scope.names.lookup c.1 = some .free)
theorem kT {osc scope : Scope} {cs : List (Str × Nat)} {N : List Str} (h : u9 osc scope cs N = true) : eV osc scope cs N := by
 unfold u9 at h
 simp only [Bool.and_eq_true, decide_eq_true_eq] at h
 exact ⟨h.1.1.1.1, h.1.1.1.2, h.1.1.2, h.1.2, h.2⟩
end
section
variable {X : Cx} {elt iter : Expr} {ifs : List Expr} {scope : Scope} {pos px py pt spos : Pos} {src : FnA} {tst : Option FnB} {fe : FnE} {cs : List (Str × Nat)} {x y z : Str} {i : Nat} {k : Nat}
theorem fgA {N : List Str} (C : Addr) (s : Shared) (H : Hp) (fp : List Addr) (hnd : ndB N = true) (hx : N[0]? = some x) (hl : scope.names.lookup x = some .local) : FG (al X N scope C s H fp) (.Name x px) (gN 0) :=
 we 0 (gL hnd) hx (.inl (lookup_relabel_local hl)) (.inr (lookup_relabel_local hl))
theorem CF (hi : FIG X (.Name x px) iter src) (helt : ∀ C s H fp, FE (al X (x :: cs.map (·.1)) scope C s H fp) elt fe) (hifs : ∀ C s H fp, oN (al X (x :: cs.map (·.1)) scope C s H fp) ifs tst)
 (hok : u9 X.env.scope scope cs X.N = true := by kernel_rfl) (hcl : closureFor scope X.env = pure (ij scope.names X.env []) := by kernel_rfl) (hc : X.calm = true := by kernel_rfl) (hnd : ndB (x :: cs.map (·.1)) = true := by kernel_rfl) (hl : scope.names.lookup x = some .local := by kernel_rfl)
 (hs : ∀ x, foldedSetIterable iter X.env x = pure x := by intro _; kernel_rfl) : FE X (.ListComp elt [⟨.Name x px, iter, ifs, 0⟩] scope pos) (aT cs src tst fe) :=
 tL X.env.scope X.N [x] [0] cs rfl rfl (kT hok) hcl hc (wg _) hi (fun C s H fp => fgA C s H fp hnd rfl hl) helt hifs rfl hs
theorem CG (hi : FIG X (.Name x px) iter src) (helt : ∀ C s H fp, FE (al X (x :: cs.map (·.1)) scope C s H fp) elt fe) (hifs : ∀ C s H fp, oN (al X (x :: cs.map (·.1)) scope C s H fp) ifs tst)
 (hok : u9 X.env.scope scope cs X.N = true := by kernel_rfl) (hcl : closureFor scope X.env = pure (ij scope.names X.env []) := by kernel_rfl) (hc : X.calm = true := by kernel_rfl) (hnd : ndB (x :: cs.map (·.1)) = true := by kernel_rfl) (hl : scope.names.lookup x = some .local := by kernel_rfl)
 (hs : ∀ x, foldedSetIterable iter X.env x = pure x := by intro _; kernel_rfl) : FE X (.ListComp elt [⟨.Name x px, iter, ifs, 0⟩] scope pos) (aA 1 cs src (gN 0) tst fe) :=
 jf X.env.scope X.N [x] [0] cs rfl rfl (kT hok) hcl hc (wg _) hi (fun C s H fp => fgA C s H fp hnd rfl hl) helt hifs hs
theorem CH (hi : FIG X (.Name x px) iter src) (helt : ∀ C s H fp, FE (al X (x :: cs.map (·.1)) scope C s H fp) elt fe) (hifs : ∀ C s H fp, oN (al X (x :: cs.map (·.1)) scope C s H fp) ifs tst)
 (hN : ndB X.N = true) (hiy : X.N[i]? = some y) (hxy : oO X.env.scope y = true) (hfy : X.fn y = true)
 (hok : u9 X.env.scope scope cs X.N = true) (hcl : closureFor scope X.env = pure (ij scope.names X.env [])) (hc : X.calm = true) (hnd : ndB (x :: cs.map (·.1)) = true) (hl : scope.names.lookup x = some .local)
 (hsw : swapsWith (.ListComp elt [⟨.Name x px, iter, ifs, 0⟩] scope pos) (some (.Name y py)) spos.line X.env = pure true)
 (hs : ∀ x, foldedSetIterable iter X.env x = pure x) : PS X (.Assign [.Name y py] (.ListComp elt [⟨.Name x px, iter, ifs, 0⟩] scope pos) spos) (tC X i (aA 1 cs src (gN 0) tst fe)) :=
 ql i (gL hN) hiy (eD hxy) (.inl hfy) X.env.scope X.N [x] [0] cs rfl rfl (kT hok) hcl hc (wg _) hi (fun C s H fp => fgA C s H fp hnd rfl hl) helt hifs hsw hs
theorem CI (hi : FIG X (.Name x px) iter src) (helt : ∀ C s H fp, FE (al X (x :: cs.map (·.1)) scope C s H fp) elt fe) (hifs : ∀ C s H fp, oN (al X (x :: cs.map (·.1)) scope C s H fp) ifs tst)
 (hsw : swapsWith (.ListComp elt [⟨.Name x px, iter, ifs, 0⟩] scope pos) (some (.Name y py)) spos.line X.env = pure true)
 (hN : ndB X.N = true := by kernel_rfl) (hiy : X.N[i]? = some y := by kernel_rfl) (hxy : oO X.env.scope y = true := by kernel_rfl) (hfy : X.fn y = true := by kernel_rfl)
 (hok : u9 X.env.scope scope cs X.N = true := by kernel_rfl) (hcl : closureFor scope X.env = pure (ij scope.names X.env []) := by kernel_rfl) (hc : X.calm = true := by kernel_rfl) (hnd : ndB (x :: cs.map (·.1)) = true := by kernel_rfl) (hl : scope.names.lookup x = some .local := by kernel_rfl)
 (hs : ∀ x, foldedSetIterable iter X.env x = pure x := by intro _; kernel_rfl) : FS X (.Assign [.Name y py] (.ListComp elt [⟨.Name x px, iter, ifs, 0⟩] scope pos) spos) (bF i (aA 1 cs src (gN 0) tst fe)) :=
 qo (CH hi helt hifs hN hiy hxy hfy hok hcl hc hnd hl hsw hs) kv
theorem Dw {N : List Str} (C : Addr) (s : Shared) (H : Hp) (fp : List Addr) (hc : X.calm = true) (hnd : ndB N = true) (hx : N[0]? = some x) (hz : N[1]? = some z) (hl : scope.names.lookup x = some .local) (hl2 : scope.names.lookup z = some .local)
 (a1 : (assignEach [.Name x px, .Name z py] (al X N scope C s H fp).env).map (·.2) = assign (.Name x px) (al X N scope C s H fp).env :: (assignEach [.Name z py] (al X N scope C s H fp).env).map (·.2)) (a2 : (assignEach [.Name z py] (al X N scope C s H fp).env).map (·.2) = assign (.Name z py) (al X N scope C s H fp).env :: (assignEach [] (al X N scope C s H fp).env).map (·.2))
 (a3 : (assignEach [.Name x px, .Name z py] (al X N scope C s H fp).env).length = 2) (a4 : (assignEach [.Name x px, .Name z py] (al X N scope C s H fp).env).findIdx? (·.1) = none) : FG (al X N scope C s H fp) (.Tuple [.Name x px, .Name z py] k pt) (gP 0 1) :=
 wf 0 1 hc (gL hnd) hx (.inl (lookup_relabel_local hl)) (.inr (lookup_relabel_local hl)) hz (.inl (lookup_relabel_local hl2)) (.inr (lookup_relabel_local hl2)) a1 a2 a3 a4
theorem CK (hi : FIG X (.Tuple [.Name x px, .Name z py] k pt) iter src) (helt : ∀ C s H fp, FE (al X (x :: z :: cs.map (·.1)) scope C s H fp) elt fe) (hifs : ∀ C s H fp, oN (al X (x :: z :: cs.map (·.1)) scope C s H fp) ifs tst)
 (hok : u9 X.env.scope scope cs X.N = true := by kernel_rfl) (hcl : closureFor scope X.env = pure (ij scope.names X.env []) := by kernel_rfl) (hc : X.calm = true := by kernel_rfl) (hnd : ndB (x :: z :: cs.map (·.1)) = true := by kernel_rfl) (hl : scope.names.lookup x = some .local := by kernel_rfl) (hl2 : scope.names.lookup z = some .local := by kernel_rfl)
 (hs : ∀ x, foldedSetIterable iter X.env x = pure x := by intro _; kernel_rfl) : FE X (.ListComp elt [⟨.Tuple [.Name x px, .Name z py] k pt, iter, ifs, 0⟩] scope pos) (aA 2 cs src (gP 0 1) tst fe) :=
 jf X.env.scope X.N [x, z] [0, 1] cs rfl rfl (kT hok) hcl hc (za _) hi (fun C s H fp => Dw C s H fp hc hnd rfl rfl hl hl2 rfl rfl rfl rfl) helt hifs hs
theorem CL {p2 : Pos} (hi : FIG X (.Tuple [.Name x px, .Name z p2] k pt) iter src) (helt : ∀ C s H fp, FE (al X (x :: z :: cs.map (·.1)) scope C s H fp) elt fe) (hifs : ∀ C s H fp, oN (al X (x :: z :: cs.map (·.1)) scope C s H fp) ifs tst)
 (hsw : swapsWith (.ListComp elt [⟨.Tuple [.Name x px, .Name z p2] k pt, iter, ifs, 0⟩] scope pos) (some (.Name y py)) spos.line X.env = pure true)
 (hN : ndB X.N = true := by kernel_rfl) (hiy : X.N[i]? = some y := by kernel_rfl) (hxy : oO X.env.scope y = true := by kernel_rfl) (hfy : X.fn y = true := by kernel_rfl)
 (hok : u9 X.env.scope scope cs X.N = true := by kernel_rfl) (hcl : closureFor scope X.env = pure (ij scope.names X.env []) := by kernel_rfl) (hc : X.calm = true := by kernel_rfl) (hnd : ndB (x :: z :: cs.map (·.1)) = true := by kernel_rfl) (hl : scope.names.lookup x = some .local := by kernel_rfl) (hl2 : scope.names.lookup z = some .local := by kernel_rfl)
 (hs : ∀ x, foldedSetIterable iter X.env x = pure x := by intro _; kernel_rfl) : FS X (.Assign [.Name y py] (.ListComp elt [⟨.Tuple [.Name x px, .Name z p2] k pt, iter, ifs, 0⟩] scope pos) spos) (bF i (aA 2 cs src (gP 0 1) tst fe)) :=
 qo (ql i (gL hN) hiy (eD hxy) (.inl hfy) X.env.scope X.N [x, z] [0, 1] cs rfl rfl (kT hok) hcl hc (za _) hi (fun C s H fp => Dw C s H fp hc hnd rfl rfl hl hl2 rfl rfl rfl rfl) helt hifs hsw hs) kv
end
section
variable {X : Cx} {N : List Str} {scope : Scope} {c : Expr} {t : FnB}
theorem ub : ∀ C s H fp, oN (al X N scope C s H fp) [] none := fun _ _ _ _ => rfl
theorem uc (h : ∀ C s H fp, FT (al X N scope C s H fp) c t) : ∀ C s H fp, oN (al X N scope C s H fp) [c] (some t) := fun C s H fp => ⟨_, rfl, h C s H fp⟩
end
section
variable {X : Cx} {a b c e st ix tg iter : Expr} {fa fb fs fi : FnE} {pos p2 pos' py apos cpos pt p1 lp ps : Pos} {i j k kk : Nat} {js : List Nat} {x y : Str} {src g : FnA} {fS : FnS} {fO : hZ} {body sts : List Stmt} {es : List Expr} {is : List Nat}
theorem zW (ha : FE X a fa) (hb : FE X b fb) (hs : ∀ o i, subscripted b false o i = operate [o, i] (getItem o i) := by intro _ _; kernel_rfl) : FE X (.Subscript a b pos) (f2 ixD fa fb) := B4 ha hb hs
theorem wP (he : FE X e fa) (hN : ndB X.N = true := by kernel_rfl) (hi : X.N[i]? = some x := by kernel_rfl) (hx : oO X.env.scope x = true := by kernel_rfl) (hf : X.fn x = true := by kernel_rfl) (hs : swapsWith e (some (.Name x pos')) pos.line X.env = pure false := by kernel_rfl) : FS X (.Assign [.Name x pos'] e pos) (bF i fa) :=
 yG i (gL hN) hi (eD hx) he hs (.inl hf)
theorem wQ (he : FE X e fa) (hex : X.ex = [] := by kernel_rfl) (hij : Nat.beq i j = false := by kernel_rfl) (hN : ndB X.N = true := by kernel_rfl) (hi : X.N[j]? = some x := by kernel_rfl) (hx : oO X.env.scope x = true := by kernel_rfl) (hf : X.fn x = true := by kernel_rfl) (hs : swapsWith e (some (.Name x pos')) pos.line X.env = pure false := by kernel_rfl) : FO1 X i (.Assign [.Name x pos'] e pos) (ez j fa) :=
 zl hex j (Nat.ne_of_beq_eq_false hij) (gL hN) hi (eD hx) he hs (.inl hf)
theorem ud (hg : FA X es g) (hr : FOs X i sts fO) (hN : ndB X.N = true := by kernel_rfl) (hi : X.N[i]? = some x := by kernel_rfl) (hx : oO X.env.scope x = true := by kernel_rfl) (hf : X.fn x = true := by kernel_rfl) (hs : swapsWith (.List es lp) (some (.Name x pos')) pos.line X.env = pure false := by kernel_rfl) : FSs X (.Assign [.Name x pos'] (.List es lp) pos :: sts) (xH i g fO) :=
 wy (gL hN) hi (eD hx) hg hr hs (.inl hf)
theorem wR (hp : PassesOwn (model X.prog X.w) X.A X.env X.xe) (hi : FI X (.Name x py) iter src) (hb : FSs X body fS) (hc : X.calm = true := by kernel_rfl) (hN : ndB X.N = true := by kernel_rfl) (hx : X.N[i]? = some x := by kernel_rfl) (hl : oO X.env.scope x = true := by kernel_rfl) (hf : X.fn x = true := by kernel_rfl)
 (hs : ∀ x, foldedSetIterable iter X.env x = pure x := by intro _; kernel_rfl) : FS X (.For (.Name x py) iter body [] pos) (mN i js src fS) :=
 yK i js hp hc hi (eR (gL hN) hx (eD hl) (.inl hf)) hb hs
theorem wS (hp : PassesOwn (model X.prog X.w) X.A X.env X.xe) (hi : FI X (.Name x py) iter src) (hb : FOs X i body fO) (hex : X.ex = [] := by kernel_rfl) (hij : Nat.beq i j = false := by kernel_rfl) (hc : X.calm = true := by kernel_rfl) (hN : ndB X.N = true := by kernel_rfl) (hx : X.N[j]? = some x := by kernel_rfl) (hl : oO X.env.scope x = true := by kernel_rfl) (hf : X.fn x = true := by kernel_rfl)
 (hs : ∀ x, foldedSetIterable iter X.env x = pure x := by intro _; kernel_rfl) : FO1 X i (.For (.Name x py) iter body [] pos) (wz j js src fO) :=
 zp hex j js (Nat.ne_of_beq_eq_false hij) hp hc hi (eR (gL hN) hx (eD hl) (.inl hf)) hb hs
theorem wT (hN : X.N[i]? = some x) (hv : oO X.env.scope x = true) (hd : (x == ("__debug__" : Str)) = false) (hcd : (x == ("__classdict__" : Str)) = false) : PE X (.Name x pos) (xP i) := oV hN ((eD hv).elim .inl fun h => .inr (.inl h)) hd hcd
theorem wU (he : FE X e fa) (hx : PE X (.Name x apos) (xP i)) (hex : X.ex = [] := by kernel_rfl)
 (hbase : attributeBase (.Name x apos) "append" X.env (eval (.Name x apos) X.env) = eval (.Name x apos) X.env := by kernel_rfl)
 (hfew : ((backTo cpos (starEach [e] X.env)).all (fun x => !x.1) && (backToKw cpos (keywordEach [] X.env)).all (fun x => x.1.isSome)
   && decide ([e].length + ([] : List Keyword).length + (if ([] : List Keyword).isEmpty then 0 else 1) < 30)) = true := by kernel_rfl)
 (hline : (pt.endLine == cpos.line) = true := by kernel_rfl) (hs : starEach [e] X.env = (false, eval e X.env) :: starEach [] X.env := by kernel_rfl) (hplain : (backTo cpos (starEach [] X.env)).any (·.1) = false := by kernel_rfl)
 (hsw : swapsWith (.Call (.Attribute (.Name x apos) "append" pt) [e] [] cpos) none pos.line X.env = pure false := by kernel_rfl) : FO1 X i (.Expr (.Call (.Attribute (.Name x apos) "append" pt) [e] [] cpos) pos) (xG fa) := zo hex hx he hbase hfew hline hs hplain hsw
end
section
variable {X : Cx} {o e : Expr} {es : List Expr} {fo : FnE} {ga : FnA} {apos cpos pos : Pos} {name : Str}
structure SmL (X : Cx) (o : Expr) (name : Str) (e : Expr) (es : List Expr) (apos cpos : Pos) : Prop where
 base : attributeBase o name X.env (eval o X.env) = eval o X.env
 few : ((backTo cpos (starEach (e :: es) X.env)).all (fun x => !x.1) && (backToKw cpos (keywordEach [] X.env)).all (fun x => x.1.isSome)
  && decide ((e :: es).length + ([] : List Keyword).length + (if ([] : List Keyword).isEmpty then 0 else 1) < 30)) = true
 line : (apos.endLine == cpos.line) = true
 s : starEach (e :: es) X.env = (false, eval e X.env) :: starEach es X.env
 plain : (backTo cpos (starEach es X.env)).any (·.1) = false
theorem lT {id : String} {r : V → List V → Hp → VK → Prop} {g : Str → List Dv → Option (Rs Dv)} (slot : Slot "str" name id) (hty : typeOf (.builtin id) = pure (.type "method_descriptor")) (hm : MtR X id r)
 (hg : ∀ i ds vs H Q, Reps X.K H ds vs → Out X H (g i ds) Q → r (.str i) vs H Q) (ho : FE X o fo) (ha : FA X (e :: es) ga) (h : SmL X o name e es apos cpos) : FE X (.Call (.Attribute o name apos) (e :: es) [] cpos) (fM g fo ga) :=
 v8 slot hty hm hg ho ha h.base h.few h.line h.s h.plain
end
section
open PySem.W
structure CA (K : PySem.W.Frag) (mg : Str → Option Value) (cls : Nat → Addr) (CJ : Addr) (S : List Nat) (m : Nat) : Prop where
 at_ : ∀ c ∈ S, mg (xnm c) = some (.ref (cls c))
 j : mg "JarError" = some (.ref CJ)
 xk : ∀ c C, c < m → nsIn K mainGlobals (xnm c) = some (some (.ref C)) → excIn K C bmV "ValueError.__new__" = true ∧ mroIn K C (.ref CJ) = some true
theorem CA.c {K : PySem.W.Frag} {mg : Str → Option Value} {cls : Nat → Addr} {CJ : Addr} {S : List Nat} {m c : Nat} {x : Str} (h : CA K mg cls CJ S m) (hc : c ∈ S) (hx : xnm c = x) : mg x = some (.ref (cls c)) := by
 subst hx
 exact h.at_ c hc
end
noncomputable abbrev nsM (K : PySem.W.Frag) (x : Str) : Option (Option Value) := PySem.W.nsIn K mainGlobals x
structure Af (K : PySem.W.Frag) (x : Str) (st : Stmt) (f : Addr) : Prop where
 a : nsM K x = some (some (.ref f))
 F : ∃ fd, Fun K x x st f fd
 k : PySem.W.keepIn K (.ref f) = true
def fnB (N P : List Str) (sc : Scope) : Bool := decide (sc.kind = .function) && !sc.isCoroutine && !sc.isGenerator && ndB N && decide (N.take P.length = P) && P.all (oO sc) && decide (∀ y ∈ sc.names, y.2 ≠ .free)
theorem Dx {N P : List Str} {sc : Scope} (h : fnB N P sc = true) : eS N P sc := by
 unfold fnB at h
 simp only [Bool.and_eq_true, decide_eq_true_eq, Bool.not_eq_true'] at h
 exact ⟨h.1.1.1.1.1.1, h.1.1.1.1.1.2, h.1.1.1.1.2, gL h.1.1.1.2, h.1.1.2, fun x hx => eD (List.all_eq_true.1 h.1.2 x hx), h.2⟩
section
variable {P : Program} {w : World} {K : PySem.W.Frag} {mg : Str → Option Value} {base : Heap} {h : Heap} {k : Nat} {x : Str} {st : Stmt} {f : Addr} {F : List Dv → Option (Rs Dv)}
def Eb (x : Str) (st : Stmt) (ps : List Str) : Prop := ∀ (kV doc pm : Value) (an : Option Addr) (cdv ct : Value) (us : List Value), us.length = ps.length → bindArgs (PySem.W.fnOf x x (eU st) (cg st) (aE st) .none kV doc pm an cdv ct) ⟨us, []⟩ = pure (ps.zip us)
theorem au (XI : K.In h) (Gn : h.Ns mainGlobals mg) (N ps : List Str) (fb : FnS) (A : Af K x st f) (hF : F = aZ N.length fb) (hs : fnB N ps (aE st) = true) (hbd : Eb x st ps)
 (hb : ∀ (cdv : Value) (A : Around) (outer : List Env) (s : Shared) (H : Hp) (E : XK), Room k (A.deeper (envOfC x (aE st) s.heap.objs.size f cdv)) → FSs (sE CX0 P w K mg base N x (aE st) f cdv A outer s H E).nox (cg st) fb) : Has P w K mg base x (k + 1) ps F :=
 let ⟨_, Fn⟩ := A.F
 ⟨_, _, uJ N ps fb hF rfl Fn (Dx hs) hb, PySem.W.mg_of XI Gn A.a, A.k, Fn.binds hbd⟩
end
theorem CM {c : FnB} {f g : FnS} {ρ : Ev} (h : c ρ = some (.ok false)) : bw c f g ρ = g ρ := by
 unfold bw; rw [h]; rfl
theorem CN {c : FnB} {f g : FnS} {ρ : Ev} (h : c ρ = some (.ok true)) : bw c f g ρ = f ρ := by
 unfold bw; rw [h]; rfl
theorem ci {α : Type} {p : α → Bool} {l : List α} (h : l.all p = true) {x : α} (hx : x ∈ l) : p x = true := List.all_eq_true.mp h x hx
end FD
namespace G
open PySem PySem.Spec PyProof.Rows L2 FD
def top (i : Nat) : Stmt := PySem.Challenge.pw_notejar_k62_whole_groups.main.body.getD i (.Pass ⟨0, 0, 0, 0⟩)
section
variable {X : Cx} {a b c o e : Expr} {es : List Expr} {fa fb fc fo : FnE} {ga : FnA} {pos p pt apos cpos : Pos}
theorem zX (ha : FE X a fa) (hb : FE X b fb) : FE X (.BinOp a .Add b pos) (f2 ec fa fb) := og o_add yL ha hb
theorem zY (ha : FE X a fa) (hb : FE X b fb) : FE X (.BinOp a .Add b pos) (f2 cv fa fb) := og zg zh ha hb
theorem zZ (ha : FE X a fa) (hb : FE X b fb) : FE X (.BinOp a .Sub b pos) (f2 sN fa fb) := og ya BV ha hb
theorem z3 (ha : FE X a fa) (hb : FE X b fb) : FE X (.BinOp a .Mult b pos) (f2 fT fa fb) := og yb BW ha hb
theorem z4 (ha : FE X a fa) (hb : FE X b fb) : FE X (.BinOp a .Mod b pos) (f2 ef fa fb) := og yc BX ha hb
theorem wV (ha : FE X a fa) (hb : FE X b fb) : FE X (.BinOp a .FloorDiv b pos) (f2 el fa fb) := og vw yM ha hb
theorem z5 (hu : X.A.units + 64 < cLine) (ha : FE X a fa) (hb : FE X b fb) (hm : behindInMarks .Eq b = false := by kernel_rfl) : FT X (.Compare a [.Eq] [b] pos) (fB (f2 eqX fa fb)) := dz (yY hu) yZ ha hb hm
theorem z6 (hu : X.A.units + 64 < cLine) (ha : FE X a fa) (hb : FE X b fb) (hm : behindInMarks .NotEq b = false := by kernel_rfl) : FT X (.Compare a [.NotEq] [b] pos) (fB (f2 neX fa fb)) := dz (B9 hu) Ca ha hb hm
theorem z7 (ha : FE X a fa) (hb : FE X b fb) (hm : behindInMarks .Lt b = false := by kernel_rfl) : FT X (.Compare a [.Lt] [b] pos) (fB (f2 ltX fa fb)) := dz y0 y1 ha hb hm
theorem z8 (ha : FE X a fa) (hb : FE X b fb) (hm : behindInMarks .Gt b = false := by kernel_rfl) : FT X (.Compare a [.Gt] [b] pos) (fB (f2 gtD fa fb)) := dz BD (BZ _) ha hb hm
theorem z9 (ha : FE X a fa) (hb : FE X b fb) (hm : behindInMarks .Is b = false := by kernel_rfl) : FT X (.Compare a [.Is] [b] pos) (fB (f2 isN fa fb)) := dz uD yP ha hb hm
theorem wW (hu : X.A.units < cLine) (ha : FE X a fa) (hb : FE X b fb) (hm : behindInMarks .Eq b = false := by kernel_rfl) : FT X (.Compare a [.Eq] [b] pos) (fB (f2 Bc fa fb)) := dz (B7 hu) B8 ha hb hm
theorem Aa (hu : X.A.units + 64 < cLine) (ha : FE X a fa) (hb : FE X b fb) (hm : behindInMarks .Lt b = false := by kernel_rfl) : FT X (.Compare a [.Lt] [b] pos) (fB (f2 ltT fa fb)) := dz (Cv hu) Cw ha hb hm
theorem Ab (ha : FE X a fa) (hb : FE X b fb) (hm : behindInMarks .In b = false := by kernel_rfl) : FT X (.Compare a [.In] [b] pos) (fB (f2 inD fa fb)) := dz o_in B1 ha hb hm
theorem Ac (hu : X.A.units + 64 < cLine) (ha : FE X a fa) (hb : FE X b fb) (hm : behindInMarks .In b = false := by kernel_rfl) : FT X (.Compare a [.In] [b] pos) (fB (f2 inX fa fb)) := dz (Ce hu) Cf ha hb hm
theorem qS (hu : X.A.units + 64 < cLine) (ha : FE X a fa) (hb : FE X b fb) (hm : behindInMarks .NotIn b = false := by kernel_rfl) : FT X (.Compare a [.NotIn] [b] pos) (fB (f2 cw fa fb)) := dz (tu hu) tw ha hb hm
theorem Ad (hu : X.A.units + 64 < cLine) (ha : FE X a fa) (hb : FE X b fb) (hm : behindInMarks .Eq b = false := by kernel_rfl) : FE X (.Compare a [.Eq] [b] pos) (f2 eqX fa fb) := ie (yY hu) yZ ha hb hm
theorem Ae (ha : FE X a fa) (hb : FE X b fb) (hm : behindInMarks .Lt b = false := by kernel_rfl) : FE X (.Compare a [.Lt] [b] pos) (f2 ltX fa fb) := ie y0 y1 ha hb hm
theorem Ag (ha : FE X a fa) (hb : FE X b fb) (hm : behindInMarks .LtE b = false := by kernel_rfl) : FE X (.Compare a [.LtE] [b] pos) (f2 leX fa fb) := ie Ck Cl ha hb hm
theorem Ah (ha : FE X a fa) (hb : FE X b fb) (hm : behindInMarks .Is b = false := by kernel_rfl) : FE X (.Compare a [.Is] [b] pos) (f2 isN fa fb) := ie uD yP ha hb hm
theorem Ai (ha : FE X a fa) (hb : FE X b fb) (hm : behindInMarks .In b = false := by kernel_rfl) : FE X (.Compare a [.In] [b] pos) (f2 inD fa fb) := ie o_in B1 ha hb hm
theorem qT (ha : FE X a fa) (hb : FE X b fb) (hm : behindInMarks .NotIn b = false := by kernel_rfl) : FE X (.Compare a [.NotIn] [b] pos) (f2 j7 fa fb) := ie o_notIn pL ha hb hm
theorem Aj (hm : X.mg "isinstance" = none) (hn : X.mg "int" = none) (ha : FE X a fa) (hg : X.env.kindOf (Str.ofString "isinstance") = some .globalImplicit := by kernel_rfl) (hg2 : X.env.kindOf (Str.ofString "int") = some .globalImplicit := by kernel_rfl) (hs1 : starEach [a, .Name (Str.ofString "int") pt] X.env = (false, eval a X.env) :: starEach [.Name (Str.ofString "int") pt] X.env := by kernel_rfl) (hs2 : starEach [.Name (Str.ofString "int") pt] X.env = (false, eval (.Name (Str.ofString "int") pt) X.env) :: starEach [] X.env := by kernel_rfl) (hpl : (backTo pos (starEach [.Name (Str.ofString "int") pt] X.env)).any (·.1) = false := by kernel_rfl) : FE X (.Call (.Name "isinstance" p) [a, .Name (Str.ofString "int") pt] [] pos) (f1 (fY kj) fa) := mR (T := "int") wA zq (by decide +kernel) (by kernel_rfl) hg hm hg2 hn ha hs1 hs2 hpl
theorem Ak (hm : X.mg "isinstance" = none) (hn : X.mg "str" = none) (ha : FE X a fa) (hg : X.env.kindOf (Str.ofString "isinstance") = some .globalImplicit := by kernel_rfl) (hg2 : X.env.kindOf (Str.ofString "str") = some .globalImplicit := by kernel_rfl) (hs1 : starEach [a, .Name (Str.ofString "str") pt] X.env = (false, eval a X.env) :: starEach [.Name (Str.ofString "str") pt] X.env := by kernel_rfl) (hs2 : starEach [.Name (Str.ofString "str") pt] X.env = (false, eval (.Name (Str.ofString "str") pt) X.env) :: starEach [] X.env := by kernel_rfl) (hpl : (backTo pos (starEach [.Name (Str.ofString "str") pt] X.env)).any (·.1) = false := by kernel_rfl) : FE X (.Call (.Name "isinstance" p) [a, .Name (Str.ofString "str") pt] [] pos) (f1 (fY j8) fa) := mR (T := "str") v3 yV (by decide +kernel) (by kernel_rfl) hg hm hg2 hn ha hs1 hs2 hpl
theorem ue (hm : X.mg "isinstance" = none) (hn : X.mg "tuple" = none) (ha : FE X a fa) (hg : X.env.kindOf (Str.ofString "isinstance") = some .globalImplicit := by kernel_rfl) (hg2 : X.env.kindOf (Str.ofString "tuple") = some .globalImplicit := by kernel_rfl) (hs1 : starEach [a, .Name (Str.ofString "tuple") pt] X.env = (false, eval a X.env) :: starEach [.Name (Str.ofString "tuple") pt] X.env := by kernel_rfl) (hs2 : starEach [.Name (Str.ofString "tuple") pt] X.env = (false, eval (.Name (Str.ofString "tuple") pt) X.env) :: starEach [] X.env := by kernel_rfl) (hpl : (backTo pos (starEach [.Name (Str.ofString "tuple") pt] X.env)).any (·.1) = false := by kernel_rfl) : FE X (.Call (.Name "isinstance" p) [a, .Name (Str.ofString "tuple") pt] [] pos) (f1 (fY jd) fa) := mR (T := "tuple") v4 sT (by decide +kernel) (by kernel_rfl) hg hm hg2 hn ha hs1 hs2 hpl
theorem wX (hm : X.mg "isinstance" = none) (hn : X.mg "bool" = none) (ha : FE X a fa) (hg : X.env.kindOf (Str.ofString "isinstance") = some .globalImplicit := by kernel_rfl) (hg2 : X.env.kindOf (Str.ofString "bool") = some .globalImplicit := by kernel_rfl) (hs1 : starEach [a, .Name (Str.ofString "bool") pt] X.env = (false, eval a X.env) :: starEach [.Name (Str.ofString "bool") pt] X.env := by kernel_rfl) (hs2 : starEach [.Name (Str.ofString "bool") pt] X.env = (false, eval (.Name (Str.ofString "bool") pt) X.env) :: starEach [] X.env := by kernel_rfl) (hpl : (backTo pos (starEach [.Name (Str.ofString "bool") pt] X.env)).any (·.1) = false := by kernel_rfl) : FE X (.Call (.Name "isinstance" p) [a, .Name (Str.ofString "bool") pt] [] pos) (f1 (fY cY) fa) := mR (T := "bool") sQ v9 (by decide +kernel) (by kernel_rfl) hg hm hg2 hn ha hs1 hs2 hpl
theorem jt (ho : FE X o fo) (ha : FA X (e :: es) ga) (h : SmL X o "startswith" e es apos cpos := by exact ⟨by kernel_rfl, by kernel_rfl, by kernel_rfl, by kernel_rfl, by kernel_rfl⟩) : FE X (.Call (.Attribute o "startswith" apos) (e :: es) [] cpos) (fM (sS Txt.startswith) fo ga) := lT PySem.F.slot_str_startswith PySem.F.type_str_startswith B5 uO ho ha h
theorem lU (ho : FE X o fo) (ha : FA X (e :: es) ga) (h : SmL X o "endswith" e es apos cpos := by exact ⟨by kernel_rfl, by kernel_rfl, by kernel_rfl, by kernel_rfl, by kernel_rfl⟩) : FE X (.Call (.Attribute o "endswith" apos) (e :: es) [] cpos) (fM (sS Txt.endswith) fo ga) := lT PySem.F.slot_str_endswith PySem.F.type_str_endswith B6 uO ho ha h
theorem uf (ho : FE X o fo) (ha : FA X (e :: es) ga) (h : SmL X o "split" e es apos cpos := by exact ⟨by kernel_rfl, by kernel_rfl, by kernel_rfl, by kernel_rfl, by kernel_rfl⟩) : FE X (.Call (.Attribute o "split" apos) (e :: es) [] cpos) (fM (ip) fo ga) := lT PySem.F.slot_str_split PySem.F.type_str_split sU wa ho ha h
theorem wY (ho : FE X o fo) (ha : FA X (e :: es) ga) (h : SmL X o "join" e es apos cpos := by exact ⟨by kernel_rfl, by kernel_rfl, by kernel_rfl, by kernel_rfl, by kernel_rfl⟩) : FE X (.Call (.Attribute o "join" apos) (e :: es) [] cpos) (fM (pM) fo ga) := lT PySem.F.slot_str_join PySem.F.type_str_join wb y3 ho ha h
theorem kU (ho : FE X o fo) (ha : FA X (e :: es) ga) (h : SmL X o "partition" e es apos cpos := by exact ⟨by kernel_rfl, by kernel_rfl, by kernel_rfl, by kernel_rfl, by kernel_rfl⟩) : FE X (.Call (.Attribute o "partition" apos) (e :: es) [] cpos) (fM (sV) fo ga) := lT PySem.F.slot_str_partition PySem.F.type_str_partition wc y6 ho ha h
theorem wZ (ho : FE X o fo) (ha : FA X (e :: es) ga) (h : SmL X o "find" e es apos cpos := by exact ⟨by kernel_rfl, by kernel_rfl, by kernel_rfl, by kernel_rfl, by kernel_rfl⟩) : FE X (.Call (.Attribute o "find" apos) (e :: es) [] cpos) (fM (Bb Txt.find) fo ga) := lT PySem.F.slot_str_find PySem.F.type_str_find v7 yU ho ha h
theorem Al (ho : FE X o fo) (ha : FA X (e :: es) ga) (h : SmL X o "index" e es apos cpos := by exact ⟨by kernel_rfl, by kernel_rfl, by kernel_rfl, by kernel_rfl, by kernel_rfl⟩) : FE X (.Call (.Attribute o "index" apos) (e :: es) [] cpos) (fM Bg fo ga) := lT PySem.F.slot_str_index PySem.F.type_str_index zk Cg ho ha h
end
local macro_rules | `(tactic| walk_at "x") => `(tactic| (first
 | with_reducible exact uI
 | with_reducible refine pF ?_ ?_
 | with_reducible exact BN _ (by kernel_rfl) (by kernel_rfl!)
 | with_reducible exact BO _ (by kernel_rfl) (by kernel_rfl!)
 | with_reducible exact yq
 | with_reducible exact yt
 | with_reducible exact BP
 | with_reducible exact yr
 | with_reducible exact Cz (by with_unfolding_all assumption) (by kernel_rfl!)
 | with_reducible exact CB (by with_unfolding_all assumption) (by kernel_rfl!)
 | with_reducible refine zW ?_ ?_
 | with_reducible refine yE ?_
 | with_reducible refine yD ?_
 | with_reducible refine ua (by with_unfolding_all assumption) (by with_unfolding_all assumption) (by kernel_rfl!) ?_
 | with_reducible refine yz ?_
 | with_reducible refine yA ?_ ?_
 | with_reducible refine BQ ?_ ?_
 | with_reducible refine yB ?_
 | with_reducible refine yO ?_
 | with_reducible refine BR ?_ ?_ ?_
 | with_reducible refine zX ?_ ?_
 | with_reducible refine zY ?_ ?_
 | with_reducible refine zZ ?_ ?_
 | with_reducible refine z3 ?_ ?_
 | with_reducible refine z4 ?_ ?_
 | with_reducible refine wV ?_ ?_
 | with_reducible refine z5 ?_ ?_ ?_
 | with_reducible refine z6 ?_ ?_ ?_
 | with_reducible refine z7 ?_ ?_
 | with_reducible refine z8 ?_ ?_
 | with_reducible refine z9 ?_ ?_
 | with_reducible refine wW ?_ ?_ ?_
 | with_reducible refine Aa ?_ ?_ ?_
 | with_reducible refine Ab ?_ ?_
 | with_reducible refine Ac ?_ ?_ ?_
 | with_reducible refine qS ?_ ?_ ?_
 | with_reducible refine Ad ?_ ?_ ?_
 | with_reducible refine Ae ?_ ?_
 | with_reducible refine Ag ?_ ?_
 | with_reducible refine Ah ?_ ?_
 | with_reducible refine Ai ?_ ?_
 | with_reducible refine qT ?_ ?_
 | with_reducible refine FW.ft (uH ?_ ?_)
 | with_reducible refine FW.ft (yx ?_ ?_)
 | with_reducible refine uH ?_ ?_
 | with_reducible refine yx ?_ ?_
 | with_reducible refine vM ?_
 | with_reducible refine yw ?_
 | with_reducible refine yy ?_
 | with_reducible refine yu ?_
 | with_reducible refine yQ ?_ ?_ ?_
 | with_reducible refine wm ?_ ?_ ?_
 | with_reducible exact vW
 | with_reducible refine vX ?_
 | with_reducible refine CF ?_ ?_ ?_
 | with_reducible refine CG ?_ ?_ ?_
 | with_reducible refine CK ?_ ?_ ?_
 | with_reducible exact ub
 | with_reducible refine uc ?_
 | with_reducible intro _ _ _ _
 | with_reducible refine ou ?_ (by kernel_rfl) (glb (by kernel_rfl)) ?_ (glb (by kernel_rfl)) ?_ ?_
 | with_reducible refine ov (by kernel_rfl) (glb (by kernel_rfl)) ?_ (glb (by kernel_rfl)) ?_ ?_
 | with_reducible refine qR (by with_unfolding_all assumption) (by with_unfolding_all assumption) (by with_unfolding_all assumption) (by kernel_rfl!) ?_
 | with_reducible refine yR (glb (by kernel_rfl)) ?_ ?_
 | with_reducible refine sW (glb (by kernel_rfl)) ?_ ?_
 | with_reducible refine wo (glb (by kernel_rfl)) ?_ ?_
 | with_reducible refine tX (glb (by kernel_rfl)) ?_ ?_
 | with_reducible refine yS (by kernel_rfl) (glb (by kernel_rfl)) ?_ ?_
 | with_reducible refine zS (by kernel_rfl) (glb (by kernel_rfl)) ?_ ?_
 | with_reducible refine zt (by kernel_rfl) (glb (by kernel_rfl)) ?_ ?_
 | with_reducible refine zu (by kernel_rfl) (glb (by kernel_rfl)) ?_ ?_
 | with_reducible refine Aj ?_ ?_ ?_
 | with_reducible refine Ak ?_ ?_ ?_
 | with_reducible refine ue ?_ ?_ ?_
 | with_reducible refine wX ?_ ?_ ?_
 | with_reducible refine jt ?_ ?_
 | with_reducible refine lU ?_ ?_
 | with_reducible refine uf ?_ ?_
 | with_reducible refine wY ?_ ?_
 | with_reducible refine kU ?_ ?_
 | with_reducible refine wZ ?_ ?_
 | with_reducible refine Al ?_ ?_
 | with_reducible refine td ?_ ?_
 | with_reducible refine sY ?_ ?_
 | with_reducible refine pH (glb (by kernel_rfl)) ?_ ?_
 | with_reducible refine pI (glb (by kernel_rfl)) ?_ ?_
 | with_reducible refine yJ ?_
 | with_reducible refine s0 (glb (by kernel_rfl)) ?_ ?_
 | with_reducible refine FI.toG ?_
 | with_reducible exact vN
 | with_reducible refine vO ?_
 | with_reducible refine ud ?_ ?_
 | with_reducible refine sJ ?_ ?_
 | with_reducible refine yF ?_
 | with_reducible refine BS ?_ ?_ ?_
 | with_reducible exact sK
 | with_reducible refine vP ?_
 | with_reducible refine CI ?_ ?_ ?_ (by kernel_rfl!)
 | with_reducible refine CL ?_ ?_ ?_ (by kernel_rfl!)
 | with_reducible refine wP ?_
 | with_reducible refine wR ?_ ?_ ?_
 | with_reducible exact ww
 | with_reducible refine wx ?_
 | with_reducible refine tx ?_ ?_
 | with_reducible refine zn ?_
 | with_reducible refine zm ?_ ?_ ?_
 | with_reducible refine wU ?_ (wT (by kernel_rfl) (by kernel_rfl) (by kernel_rfl) (by kernel_rfl))
 | with_reducible refine wQ ?_
 | with_reducible refine wS ?_ ?_ ?_
 | assumption
 | exact MA.no (by assumption) (by kernel_rfl)
 | exact Room.units (by assumption)
 | exact RoomM.units (by assumption)
 | exact Room.units0 (by assumption)
 | exact PassesOwn.never) <;> walk_at "x")
local macro_rules | `(tactic| walk_at "b") => `(tactic| (intros; (conv => arg 2; whnf); walk_at "x"))
local macro_rules | `(tactic| walk_at "d") => `(tactic| (intro _ _ _ _ _ _ us hl; rcases us with _ | ⟨_, _ | ⟨_, _ | ⟨_, _ | ⟨_, _ | ⟨_, _ | ⟨_, _ | ⟨_, _ | ⟨_, us⟩⟩⟩⟩⟩⟩⟩⟩ <;> first | rfl | cases hl))
abbrev gM : Stmt := top 78
abbrev gO : Stmt := top 79
abbrev iF : Stmt := top 80
abbrev fK : Stmt := top 81
abbrev gQ : Stmt := top 72
abbrev fL : Stmt := top 73
abbrev gR : Stmt := top 74
abbrev gS : Stmt := top 76
abbrev iG : Stmt := top 77
abbrev fN : Stmt := top 75
abbrev bO : Stmt := top 20
abbrev cb : Stmt := top 21
abbrev dD : Stmt := top 22
abbrev c8 : Stmt := top 23
abbrev dE : Stmt := top 24
abbrev iH : Stmt := top 64
abbrev vb : Stmt := top 69
abbrev iI : Stmt := top 68
abbrev kW : Stmt := top 70
abbrev Am : Stmt := top 67
abbrev An : Stmt := top 54
abbrev ce : Stmt := top 59
abbrev fP : Stmt := top 58
abbrev cy : Stmt := top 7
abbrev gT : Stmt := top 31
abbrev bV : Stmt := top 32
abbrev fQ : Stmt := top 6
abbrev iJ : Stmt := top 15
abbrev kX : Stmt := top 16
abbrev dF : Stmt := top 38
abbrev kY : Stmt := top 28
abbrev iK : Stmt := top 40
abbrev eE : Stmt := top 8
abbrev iL : Stmt := top 39
abbrev kZ : Stmt := top 53
abbrev nn : Stmt := top 57
abbrev iM : Stmt := top 60
abbrev gU : Stmt := top 63
abbrev k6 : Stmt := top 17
abbrev iN : Stmt := top 18
abbrev fR : Stmt := top 19
abbrev nq : Stmt := top 66
abbrev nr : Stmt := top 65
abbrev Ao : Stmt := top 82
def CC : zU := [cN "all", cN "bool", cN "enumerate", cN "int", cN "isinstance", cN "len", cN "list", cN "max", cN "min", cN "range", cN "set", cN "sorted", cN "str", cN "sum", cN "tuple", cS "FIGURES" "0123456789", cS "LABEL_SIGNS" "abcdefghijklmnopqrstuvwxyz0123456789-", cI "LARGEST_ROOM" 20, cI "LAST_MOMENT" 9999, cI "LONGEST_LABEL" 8, cI "LONGEST_NOTE_NAME" 10, cI "LONGEST_PATH" 20, cI "LONGEST_WORTH" 12, cI "MOST_LABELS" 5, cI "MOST_NOTES" 20, cI "MOST_RULES" 8, cI "NOTE_ENDS" 5, cI "NOTE_EXACT" 3, cI "NOTE_HOUSE" 2, cI "NOTE_MADE" 8, cI "NOTE_NAME" 0, cS "NOTE_NAME_SIGNS" "abcdefghijklmnopqrstuvwxyzABCDEFGHIJKLMNOPQRSTUVWXYZ0123456789-_", cI "NOTE_PARTS" 10, cI "NOTE_PATH" 4, cI "NOTE_REACH" 7, cI "NOTE_SAFE" 6, cI "NOTE_USED" 9, cI "NOTE_WORTH" 1, cS "NO_WORTH_SIGNS" ";,=", cS "PATH_SIGNS" "abcdefghijklmnopqrstuvwxyz0123456789-_./"]
section
variable {P : Program} {w : World} {K : PySem.W.Frag} {mg : Str → Option Value} {base h : Heap} {f : Addr} (XI : K.In h) (Gn : h.Ns mainGlobals mg) (M : MA mg CC)
include XI Gn M
def T0 : bP := []
def dR : FnS := (aJ (bF 1 (fM (ip) (ab 0) (aa (fC (.str ".")) ag))) (aF (aT [("_law_parts", 1)] (fun ρ => bnd ((aa (fB1 du (aa (ab 1) ag)) ag) ρ) j4) none (fM (pM) (fC (.str ".")) (aa (uN (ab 1) (fU (ab 0)) i8) ag)))))
def cL : List Dv → Option (Rs Dv) := aZ 2 dR
theorem k7 (A : Af K "_law_ends" gM f) (t : HA P w K mg base T0) : Has P w K mg base "_law_ends" 1 ["_law_name_here"] cL :=
 au XI Gn ["_law_name_here", "_law_parts"] ["_law_name_here"] dR A (by kernel_rfl) (by kernel_rfl) (by walk_at "d") (by delta dR; walk_at "b")
def T1 : bP := ("_law_ends", 1, ["_law_name_here"], cL) :: T0
def dS : FnS := (aJ (bF 2 (ah cL 1 (aa (ab 1) ag))) (aJ (bF 3 (aA 1 [("_law_table_here", 0)] (bG (ab 2)) (gN 0) (some (fB (f2 inD (f2 ec (fC (.str "!")) (ab 0)) (ab 1)))) (ab 0))) (aJ (bw (fB (f2 neX (ab 3) (fG ag))) (aF (uN (f2 ixD (ab 3) (fC (.int 0))) (fU (f2 ec (fM Bg (f2 ixD (ab 3) (fC (.int 0))) (aa (fC (.str ".")) ag)) (fC (.int 1)))) i8)) (fun ρ => some (.nx ρ))) (aJ (bF 4 (aA 1 [("_law_table_here", 0)] (bG (ab 2)) (gN 0) (some (bOr (fB (f2 inD (ab 0) (ab 1))) (A0 (fB (f2 inD (f2 ec (fC (.str "*")) (uN (ab 0) (fU (fM (Bb Txt.find) (ab 0) (aa (fC (.str ".")) ag))) i8)) (ab 1))) (fB (f2 inD (fC (.str ".")) (ab 0)))))) (ab 0))) (aF (f2 ixD (f2 ec (ab 4) (uN (ab 2) (fU (f1 yN (fC (.int 1)))) i8)) (fC (.int 0))))))))
def dU : List Dv → Option (Rs Dv) := aZ 5 dS
theorem k8 (A : Af K "_law_open" gO f) (t : HA P w K mg base T1) : Has P w K mg base "_law_open" 2 ["_law_table_here", "_law_name_here"] dU :=
 au XI Gn ["_law_table_here", "_law_name_here", "_law_ends_here", "_law_called", "_law_met"] ["_law_table_here", "_law_name_here"] dS A (by kernel_rfl) (by kernel_rfl) (by walk_at "d") (by delta dS; walk_at "b")
def T2 : bP := ("_law_open", 2, ["_law_table_here", "_law_name_here"], dU) :: T1
def fj : FnS := (aJ (bF 2 (ah cL 1 (aa (ab 1) ag))) (aJ (bF 3 (aA 1 [("_law_table_here", 0), ("_law_name_here", 1)] (bG (ab 2)) (gN 0) (some (fB (f2 gtD (fB1 du (aa (ab 0) ag)) (fB1 du (aa (ah dU 2 (aa (ab 1) (aa (ab 2) ag))) ag))))) (ab 0))) (aF (fIf (fB (f2 neX (ab 3) (fG ag))) (f2 ixD (ab 3) (f1 yN (fC (.int 1)))) (fC .non)))))
def dq : List Dv → Option (Rs Dv) := aZ 4 fj
theorem lV (A : Af K "_law_own" iF f) (t : HA P w K mg base T2) : Has P w K mg base "_law_own" 3 ["_law_table_here", "_law_name_here"] dq :=
 au XI Gn ["_law_table_here", "_law_name_here", "_law_ends_here", "_law_longer"] ["_law_table_here", "_law_name_here"] fj A (by kernel_rfl) (by kernel_rfl) (by walk_at "d") (by delta fj; walk_at "b")
def T3 : bP := ("_law_own", 3, ["_law_table_here", "_law_name_here"], dq) :: T2
def bI : FnS := (aJ (bF 2 (ah dq 2 (aa (ab 0) (aa (f2 ixD (ab 1) (fC (.int 2))) ag)))) (aF (fIf (fB (f2 isN (ab 2) (fC .non))) (f2 ixD (ab 1) (fC (.int 2))) (ab 2))))
def aG : List Dv → Option (Rs Dv) := aZ 3 bI
theorem ju (A : Af K "_law_group" fK f) (t : HA P w K mg base T3) : Has P w K mg base "_law_group" 4 ["_law_table_here", "_law_note"] aG :=
 au XI Gn ["_law_table_here", "_law_note", "_law_own_here"] ["_law_table_here", "_law_note"] bI A (by kernel_rfl) (by kernel_rfl) (by walk_at "d") (by delta bI; walk_at "b")
def T4 : bP := ("_law_group", 4, ["_law_table_here", "_law_note"], aG) :: T3
def bW : FnS := (aJ (bw (fB (f2 Bc (ab 0) (fG ag))) (aF (f2 fT (fC (.int 7)) (ab 1))) (fun ρ => some (.nx ρ))) (aF (f2 ec (f2 ixD (ab 0) (f2 ef (ab 1) (fB1 du (aa (ab 0) ag)))) (f2 fT (fC (.int 6553)) (f2 el (ab 1) (fB1 du (aa (ab 0) ag)))))))
def aU : List Dv → Option (Rs Dv) := aZ 2 bW
theorem k9 (A : Af K "_law_cell" gQ f) (t : HA P w K mg base T4) : Has P w K mg base "_law_cell" 1 ["_law_script", "_law_k"] aU :=
 au XI Gn ["_law_script", "_law_k"] ["_law_script", "_law_k"] bW A (by kernel_rfl) (by kernel_rfl) (by walk_at "d") (by delta bW; walk_at "b")
def T5 : bP := ("_law_cell", 1, ["_law_script", "_law_k"], aU) :: T4
def bg : FnS := (aJ (bF 3 (f2 ef (f2 ec (f2 fT (f2 ef (ah aU 2 (aa (ab 0) (aa (ab 1) ag))) (fC (.int 2147483563))) (fC (.int 69069))) (f2 fT (fC (.int 104723)) (f2 ec (ab 1) (fC (.int 1))))) (fC (.int 2147483563)))) (aJ (bF 3 (f2 ef (f2 ec (f2 fT (ab 3) (ab 3)) (f2 el (ab 3) (fC (.int 3)))) (fC (.int 2147483399)))) (aF (f2 ef (f2 el (f2 ef (f2 ec (f2 fT (ab 3) (ab 3)) (f2 el (ab 3) (fC (.int 7)))) (fC (.int 2147483647))) (fC (.int 11))) (ab 2)))))
def ac : List Dv → Option (Rs Dv) := aZ 4 bg
theorem jv (A : Af K "_law_drawn" fL f) (t : HA P w K mg base T5) : Has P w K mg base "_law_drawn" 2 ["_law_script", "_law_k", "_law_many"] ac :=
 au XI Gn ["_law_script", "_law_k", "_law_many", "_law_cell_here"] ["_law_script", "_law_k", "_law_many"] bg A (by kernel_rfl) (by kernel_rfl) (by walk_at "d") (by delta bg; walk_at "b")
def T6 : bP := ("_law_drawn", 2, ["_law_script", "_law_k", "_law_many"], ac) :: T5
def dW : FnS := (aJ (bF 2 (fG (aa (fC (.str "a.b")) (aa (fC (.str "b")) (aa (fC (.str "x.a.b")) (aa (fC (.str "y.x.a.b")) (aa (fC (.str "c.uk")) (aa (fC (.str "uk")) (aa (fC (.str "d.c.uk")) (aa (fC (.str "e.d.c.uk")) ag)))))))))) (aJ (bF 2 (f2 ec (ab 2) (fG (aa (fC (.str "w.ck")) (aa (fC (.str "v.w.ck")) (aa (fC (.str "ck")) (aa (fC (.str "g-1.a.b")) (aa (fC (.str "7.b")) (aa (fC (.str "p.q")) ag))))))))) (aF (f2 ixD (ab 2) (ah ac 3 (aa (ab 0) (aa (ab 1) (aa (fB1 du (aa (ab 2) ag)) ag))))))))
def bz : List Dv → Option (Rs Dv) := aZ 3 dW
theorem lb (A : Af K "_law_name" gR f) (t : HA P w K mg base T6) : Has P w K mg base "_law_name" 3 ["_law_script", "_law_at"] bz :=
 au XI Gn ["_law_script", "_law_at", "_law_some"] ["_law_script", "_law_at"] dW A (by kernel_rfl) (by kernel_rfl) (by walk_at "d") (by delta dW; walk_at "b")
def T7 : bP := ("_law_name", 3, ["_law_script", "_law_at"], bz) :: T6
def dX : FnS := (aJ (bF 2 (fG (aa (fC (.str "/")) (aa (fC (.str "/x")) (aa (fC (.str "/x/")) (aa (fC (.str "/x/y")) (aa (fC (.str "/xy")) (aa (fC (.str "/x/y/z.q")) (aa (fC (.str "//")) (aa (fC (.str "/-_.9")) (aa (fC (.str "/x/y/")) ag))))))))))) (aF (f2 ixD (ab 2) (ah ac 3 (aa (ab 0) (aa (ab 1) (aa (fB1 du (aa (ab 2) ag)) ag)))))))
def bA : List Dv → Option (Rs Dv) := aZ 3 dX
theorem lc (A : Af K "_law_path" gS f) (t : HA P w K mg base T7) : Has P w K mg base "_law_path" 3 ["_law_script", "_law_at"] bA :=
 au XI Gn ["_law_script", "_law_at", "_law_some"] ["_law_script", "_law_at"] dX A (by kernel_rfl) (by kernel_rfl) (by walk_at "d") (by delta dX; walk_at "b")
def T8 : bP := ("_law_path", 3, ["_law_script", "_law_at"], bA) :: T7
def aB : hZ := (dN (ez 6 (f2 cv (f2 cv (ab 1) (fC (.int 1))) (f2 fT (fC (.int 14)) (ab 5)))) (dN (ez 4 (f2 cv (ab 4) (ah ac 3 (aa (ab 0) (aa (ab 6) (aa (fC (.int 4)) ag)))))) (dN (ez 7 (f2 ixD (fG (aa (fC (.str "n")) (aa (fC (.str "m-1")) (aa (fC (.str "safe-a")) (aa (fC (.str "N_2")) ag))))) (ah ac 3 (aa (ab 0) (aa (f2 cv (ab 6) (fC (.int 1))) (aa (fC (.int 4)) ag)))))) (dN (ez 8 (f2 ixD (fG (aa (fC (.str "5")) (aa (fC (.str "")) (aa (fC (.str "a!b~")) ag)))) (ah ac 3 (aa (ab 0) (aa (f2 cv (ab 6) (fC (.int 2))) (aa (fC (.int 3)) ag)))))) (dN (ez 9 (f2 ixD (fG (aa (fC .non) (aa (ah ac 3 (aa (ab 0) (aa (f2 cv (ab 6) (fC (.int 7))) (aa (fC (.int 60)) ag)))) ag))) (ah ac 3 (aa (ab 0) (aa (f2 cv (ab 6) (fC (.int 6))) (aa (fC (.int 2)) ag)))))) (dN (ez 10 (f2 eqX (ah ac 3 (aa (ab 0) (aa (f2 cv (ab 6) (fC (.int 4))) (aa (fC (.int 2)) ag)))) (fC (.int 0)))) (dN (ez 11 (dh (aa (ab 7) (aa (ab 8) (aa (ah bz 2 (aa (ab 0) (aa (f2 cv (ab 6) (fC (.int 3))) ag))) (aa (ab 10) (aa (ah bA 2 (aa (ab 0) (aa (f2 cv (ab 6) (fC (.int 5))) ag))) ag))))))) (dN (ez 12 (f2 ixD (fG (aa (fC (.str "any")) (aa (fC (.str "any")) (aa (fC (.str "near")) ag)))) (ah ac 3 (aa (ab 0) (aa (f2 cv (ab 6) (fC (.int 9))) (aa (fC (.int 3)) ag)))))) (dN (ez 13 (f2 eqX (ah ac 3 (aa (ab 0) (aa (f2 cv (ab 6) (fC (.int 8))) (aa (fC (.int 2)) ag)))) (fC (.int 0)))) (dN (ez 14 (f2 cv (ab 4) (ah ac 3 (aa (ab 0) (aa (f2 cv (ab 6) (fC (.int 10))) (aa (fC (.int 5)) ag)))))) (dN (ez 15 (f2 cv (ab 11) (dh (aa (ab 9) (aa (ab 13) (aa (ab 12) (aa (ab 4) (aa (ab 14) ag)))))))) (wv 3 (fB (f2 eqX (aT [("_law_note", 15)] (bG (ab 3)) (some (fB (f2 eqX (dh (aa (f2 ixD (ab 0) (fC (.int 0))) (aa (f2 ixD (ab 0) (fC (.int 2))) (aa (f2 ixD (ab 0) (fC (.int 4))) ag)))) (dh (aa (f2 ixD (ab 1) (fC (.int 0))) (aa (f2 ixD (ab 1) (fC (.int 2))) (aa (f2 ixD (ab 1) (fC (.int 4))) ag))))))) (ab 0)) (fG ag))) (xG (ab 15)) Bh))))))))))))
def fk : FnS := (xH 3 ag (dN (ez 4 (fC (.int 0))) (dN (wz 5 [5, 6, 7, 8, 9, 10, 11, 12, 13, 14, 15] (fun ρ => bnd ((aa (ah ac 3 (aa (ab 0) (aa (ab 1) (aa (f2 cv (ab 2) (fC (.int 1))) ag)))) ag) ρ) j4) aB) (xF 3 (fB1 fI (aa (ab 3) ag))))))
def cz : List Dv → Option (Rs Dv) := aZ 16 fk
theorem lW (A : Af K "_law_jar" iG f) (t : HA P w K mg base T8) : Has P w K mg base "_law_jar" 4 ["_law_script", "_law_at", "_law_many"] cz :=
 au XI Gn ["_law_script", "_law_at", "_law_many", "_law_found", "_law_now", "_law_k", "_law_here", "_law_name_here", "_law_worth", "_law_ends_here", "_law_exact", "_law_head", "_law_reach", "_law_safe", "_law_late", "_law_note"] ["_law_script", "_law_at", "_law_many"] fk A (by kernel_rfl) (by kernel_rfl) (by walk_at "d") (by delta fk aB; walk_at "b")
def T9 : bP := ("_law_jar", 4, ["_law_script", "_law_at", "_law_many"], cz) :: T8
def c9 : FnS := (aJ (bF 2 (fG (aa (fC (.str "!w.ck")) (aa (fC (.str "*.ck")) (aa (fC (.str "*.uk")) (aa (fC (.str "a.b")) (aa (fC (.str "b")) (aa (fC (.str "c.uk")) (aa (fC (.str "q")) (aa (fC (.str "uk")) ag)))))))))) (aF (fB1 fI (aa (aA 2 [("_law_script", 0), ("_law_at", 1)] (fun ρ => bnd ((aa (ab 2) ag) ρ) sZ) (gP 0 1) (some (fB (f2 eqX (ah ac 3 (aa (ab 2) (aa (f2 ec (ab 3) (ab 0)) (aa (fC (.int 2)) ag)))) (fC (.int 0))))) (ab 1)) ag))))
def bh : List Dv → Option (Rs Dv) := aZ 3 c9
theorem jw (A : Af K "_law_table" fN f) (t : HA P w K mg base T9) : Has P w K mg base "_law_table" 3 ["_law_script", "_law_at"] bh :=
 au XI Gn ["_law_script", "_law_at", "_law_some"] ["_law_script", "_law_at"] c9 A (by kernel_rfl) (by kernel_rfl) (by walk_at "d") (by delta c9; walk_at "b")
def T10 : bP := ("_law_table", 3, ["_law_script", "_law_at"], bh) :: T9
def ba : FnS := (aJ (bF 1 (fM (ip) (ab 0) (aa (fC (.str ".")) ag))) (aF (aT [("parts", 1)] (fun ρ => bnd ((aa (fB1 du (aa (ab 1) ag)) ag) ρ) j4) none (fM (pM) (fC (.str ".")) (aa (uN (ab 1) (fU (ab 0)) i8) ag)))))
def aL : List Dv → Option (Rs Dv) := aZ 2 ba
theorem da (A : Af K "ends_longest_first" bO f) (t : HA P w K mg base T10) : Has P w K mg base "ends_longest_first" 1 ["name"] aL :=
 au XI Gn ["name", "parts"] ["name"] ba A (by kernel_rfl) (by kernel_rfl) (by walk_at "d") (by delta ba; walk_at "b")
def T11 : bP := ("ends_longest_first", 1, ["name"], aL) :: T10
def bp : FnS := (aF (f2 ixD (fM (sV) (ab 0) (aa (fC (.str ".")) ag)) (fC (.int 2))))
def aS : List Dv → Option (Rs Dv) := aZ 1 bp
theorem dY (A : Af K "behind_first_dot" cb f) (t : HA P w K mg base T11) : Has P w K mg base "behind_first_dot" 1 ["end"] aS :=
 au XI Gn ["end"] ["end"] bp A (by kernel_rfl) (by kernel_rfl) (by walk_at "d") (by delta bp; walk_at "b")
def T12 : bP := ("behind_first_dot", 1, ["end"], aS) :: T11
def cj : FnS := (aJ (bw (fB (f2 inD (ab 1) (ab 0))) (aF (fC (.bl true))) (fun ρ => some (.nx ρ))) (aF (iZ (f2 inD (fC (.str ".")) (ab 1)) (f2 inD (f2 ec (fC (.str "*.")) (ah aS 1 (aa (ab 1) ag))) (ab 0)))))
def cm : List Dv → Option (Rs Dv) := aZ 2 cj
theorem gW (A : Af K "is_told_open" dD f) (t : HA P w K mg base T12) : Has P w K mg base "is_told_open" 2 ["table", "end"] cm :=
 au XI Gn ["table", "end"] ["table", "end"] cj A (by kernel_rfl) (by kernel_rfl) (by walk_at "d") (by delta cj; walk_at "b")
def T13 : bP := ("is_told_open", 2, ["table", "end"], cm) :: T12
def cA : FnS := (bw (fB (f2 inD (f2 ec (fC (.str "!")) (ab 3)) (ab 0))) (aF (ah aS 1 (aa (ab 3) ag))) (fun ρ => some (.nx ρ)))
def cB : FnS := (bw (fB (ah cm 2 (aa (ab 0) (aa (ab 3) ag)))) (aF (ab 3)) (fun ρ => some (.nx ρ)))
def bX : FnS := (aJ (bF 2 (ah aL 1 (aa (ab 1) ag))) (aJ (mN 3 [] (bG (ab 2)) cA) (aJ (mN 3 [3] (bG (ab 2)) cB) (aF (f2 ixD (ab 2) (f1 yN (fC (.int 1))))))))
def bY : List Dv → Option (Rs Dv) := aZ 4 bX
theorem fW (A : Af K "find_open_end" c8 f) (t : HA P w K mg base T13) : Has P w K mg base "find_open_end" 3 ["table", "name"] bY :=
 au XI Gn ["table", "name", "ends", "end"] ["table", "name"] bX A (by kernel_rfl) (by kernel_rfl) (by walk_at "d") (by delta bX cA cB; walk_at "b")
def T14 : bP := ("find_open_end", 3, ["table", "name"], bY) :: T13
def cq : FnS := (aJ (bF 2 (ah bY 2 (aa (ab 0) (aa (ab 1) ag)))) (aJ (bF 3 (ah aL 1 (aa (ab 1) ag))) (aJ (bF 4 (fML Cb (ab 3) (aa (ab 2) ag))) (aJ (bw (fB (f2 eqX (ab 4) (fC (.int 0)))) (aF (fC .non)) (fun ρ => some (.nx ρ))) (aF (f2 ixD (ab 3) (f2 sN (ab 4) (fC (.int 1)))))))))
def aP : List Dv → Option (Rs Dv) := aZ 5 cq
theorem gX (A : Af K "find_own_end" dE f) (t : HA P w K mg base T14) : Has P w K mg base "find_own_end" 4 ["table", "name"] aP :=
 au XI Gn ["table", "name", "end", "ends", "place"] ["table", "name"] cq A (by kernel_rfl) (by kernel_rfl) (by walk_at "d") (by delta cq; walk_at "b")
def T15 : bP := ("find_own_end", 4, ["table", "name"], aP) :: T14
def cC : FnS := (aJ (bF 2 (ah aP 2 (aa (ab 0) (aa (f2 ixD (ab 1) (fC (.int 2))) ag)))) (aJ (bw (fB (f2 isN (ab 2) (fC .non))) (aF (f2 ixD (ab 1) (fC (.int 2)))) (fun ρ => some (.nx ρ))) (aF (ab 2))))
def ax : List Dv → Option (Rs Dv) := aZ 3 cC
theorem lX (A : Af K "group_of" iH f) (t : HA P w K mg base T15) : Has P w K mg base "group_of" 5 ["table", "note"] ax :=
 au XI Gn ["table", "note", "own"] ["table", "note"] cC A (by kernel_rfl) (by kernel_rfl) (by walk_at "d") (by delta cC; walk_at "b")
def T16 : bP := ("group_of", 5, ["table", "note"], ax) :: T15
def nu : FnS := (aF (dh (aa (f2 ixD (ab 0) (fC (.int 6))) (aa (f2 ixD (ab 0) (fC (.int 9))) ag))))
def dG : List Dv → Option (Rs Dv) := aZ 1 nu
theorem w6 (A : Af K "rank" vb f) (t : HA P w K mg base T16) : Has P w K mg base "rank" 1 ["note"] dG :=
 au XI Gn ["note"] ["note"] nu A (by kernel_rfl) (by kernel_rfl) (by walk_at "d") (by delta nu; walk_at "b")
def T17 : bP := ("rank", 1, ["note"], dG) :: T16
def cD : FnS := (aJ (bF 2 (fB1 (oA dG) (aa (ab 0) ag))) (aF (tt (ab 2) i8 (fU (fB1 Bi (aa (f2 sN (fB1 du (aa (ab 0) ag)) (ab 1)) (aa (fC (.int 0)) ag)))))))
def bB : List Dv → Option (Rs Dv) := aZ 3 cD
theorem lY (A : Af K "too_many" iI f) (t : HA P w K mg base T17) : Has P w K mg base "too_many" 4 ["notes", "room"] bB :=
 au XI Gn ["notes", "room", "in_order"] ["notes", "room"] cD A (by kernel_rfl) (by kernel_rfl) (by walk_at "d") (by delta cD; walk_at "b")
def T18 : bP := ("too_many", 4, ["notes", "room"], bB) :: T17
def db : FnS := (aF (fB1 fI (aa (aT [("dropped", 1)] (bG (ab 0)) (some (fB (f2 cw (ab 0) (ab 1)))) (ab 0)) ag)))
def bZ : List Dv → Option (Rs Dv) := aZ 2 db
theorem oB (A : Af K "without" kW f) (t : HA P w K mg base T18) : Has P w K mg base "without" 1 ["notes", "dropped"] bZ :=
 au XI Gn ["notes", "dropped"] ["notes", "dropped"] db A (by kernel_rfl) (by kernel_rfl) (by walk_at "d") (by delta db; walk_at "b")
def T19 : bP := ("without", 1, ["notes", "dropped"], bZ) :: T18
def dZ : FnS := (aJ (bF 6 (aA 1 [("table", 0), ("group", 5)] (bG (ab 1)) (gN 0) (some (fB (f2 eqX (ah ax 2 (aa (ab 1) (aa (ab 0) ag))) (ab 2)))) (ab 0))) (bF 4 (ah bZ 2 (aa (ab 4) (aa (ah bB 2 (aa (ab 6) (aa (ab 2) ag))) ag)))))
def qU : FnS := (aJ (bF 4 (ab 1)) (aJ (mN 5 [5, 6] (bG (fB1 dO (aa (aT [("table", 0)] (bG (ab 1)) none (ah ax 2 (aa (ab 1) (aa (ab 0) ag)))) ag))) dZ) (aF (ah bZ 2 (aa (ab 4) (aa (ah bB 2 (aa (ab 4) (aa (ab 3) ag))) ag))))))
def qV : List Dv → Option (Rs Dv) := aZ 7 qU
theorem Ap (A : Af K "fit" Am f) (t : HA P w K mg base T19) : Has P w K mg base "fit" 6 ["table", "notes", "each", "most"] qV :=
 au XI Gn ["table", "notes", "each", "most", "left", "group", "members"] ["table", "notes", "each", "most"] qU A (by kernel_rfl) (by kernel_rfl) (by walk_at "d") (by delta qU dZ; walk_at "b")
def T20 : bP := ("fit", 6, ["table", "notes", "each", "most"], qV) :: T19
def ug : FnS := (aF (dh (aa (f2 ixD (ab 0) (fC (.int 0))) (aa (f2 ixD (ab 0) (fC (.int 2))) (aa (f2 ixD (ab 0) (fC (.int 4))) ag)))))
def lZ : List Dv → Option (Rs Dv) := aZ 1 ug
theorem Aq (A : Af K "key" An f) (t : HA P w K mg base T20) : Has P w K mg base "key" 1 ["note"] lZ :=
 au XI Gn ["note"] ["note"] ug A (by kernel_rfl) (by kernel_rfl) (by walk_at "d") (by delta ug; walk_at "b")
def T21 : bP := ("key", 1, ["note"], lZ) :: T20
def aH : FnS := (aJ (bF 1 (aA 1 [] (bG (ab 0)) (gN 0) none (ah lZ 1 (aa (ab 0) ag)))) (aF (f2 eqX (fB1 gB (aa (ab 1) ag)) (fB1 du (aa (ab 1) ag)))))
def aI : List Dv → Option (Rs Dv) := aZ 2 aH
theorem d5 (A : Af K "has_no_key_twice" ce f) (t : HA P w K mg base T21) : Has P w K mg base "has_no_key_twice" 2 ["notes"] aI :=
 au XI Gn ["notes", "keys"] ["notes"] aH A (by kernel_rfl) (by kernel_rfl) (by walk_at "d") (by delta aH; walk_at "b")
def T22 : bP := ("has_no_key_twice", 2, ["notes"], aI) :: T21
def dc : FnS := (aF (fB1 lK (aa (aT [("notes", 0)] (fun ρ => bnd ((aa (fC (.int 1)) (aa (fB1 du (aa (ab 0) ag)) ag)) ρ) sn) none (f2 leX (f2 ixD (f2 ixD (ab 1) (f2 sN (ab 0) (fC (.int 1)))) (fC (.int 8))) (f2 ixD (f2 ixD (ab 1) (ab 0)) (fC (.int 8))))) ag)))
def bJ : List Dv → Option (Rs Dv) := aZ 1 dc
theorem jx (A : Af K "is_by_made" fP f) (t : HA P w K mg base T22) : Has P w K mg base "is_by_made" 1 ["notes"] bJ :=
 au XI Gn ["notes"] ["notes"] dc A (by kernel_rfl) (by kernel_rfl) (by walk_at "d") (by delta dc; walk_at "b")
def T23 : bP := ("is_by_made", 1, ["notes"], bJ) :: T22
def aC : FnS := (aJ (bw (bOr (dA (fB (f1 (fY kj) (ab 0)))) (fB (f1 (fY cY) (ab 0)))) (aF (fC (.bl false))) (fun ρ => some (.nx ρ))) (aF (iZ (f2 leX (ab 1) (ab 0)) (f2 leX (ab 0) (ab 2)))))
def ar : List Dv → Option (Rs Dv) := aZ 3 aC
theorem eG (A : Af K "is_whole_number" cy f) (t : HA P w K mg base T23) : Has P w K mg base "is_whole_number" 1 ["thing", "least", "most"] ar :=
 au XI Gn ["thing", "least", "most"] ["thing", "least", "most"] aC A (by kernel_rfl) (by kernel_rfl) (by walk_at "d") (by delta aC; walk_at "b")
def T24 : bP := ("is_whole_number", 1, ["thing", "least", "most"], ar) :: T23
def cM : FnS := (aF (ah ar 3 (aa (ab 0) (aa (fC (.int 0)) (aa (fC (.int 9999)) ag)))))
def aV : List Dv → Option (Rs Dv) := aZ 1 cM
theorem ld (A : Af K "is_moment" gT f) (t : HA P w K mg base T24) : Has P w K mg base "is_moment" 2 ["thing"] aV :=
 au XI Gn ["thing"] ["thing"] cM A (by kernel_rfl) (by kernel_rfl) (by walk_at "d") (by delta cM; walk_at "b")
def T25 : bP := ("is_moment", 2, ["thing"], aV) :: T24
def aD : FnS := (aF (vOr (f2 isN (ab 0) (fC .non)) (ah aV 1 (aa (ab 0) ag))))
def aw : List Dv → Option (Rs Dv) := aZ 1 aD
theorem dv (A : Af K "is_moment_or_none" bV f) (t : HA P w K mg base T25) : Has P w K mg base "is_moment_or_none" 3 ["thing"] aw :=
 au XI Gn ["thing"] ["thing"] aD A (by kernel_rfl) (by kernel_rfl) (by walk_at "d") (by delta aD; walk_at "b")
def T26 : bP := ("is_moment_or_none", 3, ["thing"], aw) :: T25
def de : FnS := (aJ (bw (dA (fB (f1 (fY j8) (ab 0)))) (aF (fC (.bl false))) (fun ρ => some (.nx ρ))) (aJ (bw (bOr (fB (f2 ltX (fB1 du (aa (ab 0) ag)) (ab 2))) (fB (f2 gtD (fB1 du (aa (ab 0) ag)) (ab 3)))) (aF (fC (.bl false))) (fun ρ => some (.nx ρ))) (aF (fB1 lK (aa (aT [("signs", 1)] (bG (ab 0)) none (f2 inD (ab 0) (ab 1))) ag)))))
def bi : List Dv → Option (Rs Dv) := aZ 4 de
theorem jy (A : Af K "is_text_of" fQ f) (t : HA P w K mg base T26) : Has P w K mg base "is_text_of" 1 ["thing", "signs", "least", "most"] bi :=
 au XI Gn ["thing", "signs", "least", "most"] ["thing", "signs", "least", "most"] de A (by kernel_rfl) (by kernel_rfl) (by walk_at "d") (by delta de; walk_at "b")
def T27 : bP := ("is_text_of", 1, ["thing", "signs", "least", "most"], bi) :: T26
def fm : FnS := (aJ (bw (dA (fB (ah bi 4 (aa (ab 0) (aa (fC (.str "abcdefghijklmnopqrstuvwxyz0123456789-")) (aa (fC (.int 1)) (aa (fC (.int 8)) ag))))))) (aF (fC (.bl false))) (fun ρ => some (.nx ρ))) (aF (iZ (xD (fM (sS Txt.startswith) (ab 0) (aa (fC (.str "-")) ag))) (xD (fM (sS Txt.endswith) (ab 0) (aa (fC (.str "-")) ag))))))
def fq : List Dv → Option (Rs Dv) := aZ 1 fm
theorem l0 (A : Af K "is_label" iJ f) (t : HA P w K mg base T27) : Has P w K mg base "is_label" 2 ["thing"] fq :=
 au XI Gn ["thing"] ["thing"] fm A (by kernel_rfl) (by kernel_rfl) (by walk_at "d") (by delta fm; walk_at "b")
def T28 : bP := ("is_label", 2, ["thing"], fq) :: T27
def gY : FnS := (aJ (bw (dA (fB (f1 (fY j8) (ab 0)))) (aF (fC (.bl false))) (fun ρ => some (.nx ρ))) (aJ (bF 1 (fM (ip) (ab 0) (aa (fC (.str ".")) ag))) (aJ (bw (bOr (fB (f2 gtD (fB1 du (aa (ab 1) ag)) (fC (.int 5)))) (dA (fB (fB1 lK (aa (aT [] (bG (ab 1)) none (ah fq 1 (aa (ab 0) ag))) ag))))) (aF (fC (.bl false))) (fun ρ => some (.nx ρ))) (aF (xD (ah bi 4 (aa (f2 ixD (ab 1) (f1 yN (fC (.int 1)))) (aa (fC (.str "0123456789")) (aa (fC (.int 1)) (aa (fC (.int 8)) ag))))))))))
def bq : List Dv → Option (Rs Dv) := aZ 2 gY
theorem oD (A : Af K "is_name" kX f) (t : HA P w K mg base T28) : Has P w K mg base "is_name" 3 ["thing"] bq :=
 au XI Gn ["thing", "parts"] ["thing"] gY A (by kernel_rfl) (by kernel_rfl) (by walk_at "d") (by delta gY; walk_at "b")
def T29 : bP := ("is_name", 3, ["thing"], bq) :: T28
def cr : FnS := (aF (ah bi 4 (aa (ab 0) (aa (fC (.str "abcdefghijklmnopqrstuvwxyzABCDEFGHIJKLMNOPQRSTUVWXYZ0123456789-_")) (aa (fC (.int 1)) (aa (fC (.int 10)) ag))))))
def aQ : List Dv → Option (Rs Dv) := aZ 1 cr
theorem gZ (A : Af K "is_note_name" dF f) (t : HA P w K mg base T29) : Has P w K mg base "is_note_name" 2 ["thing"] aQ :=
 au XI Gn ["thing"] ["thing"] cr A (by kernel_rfl) (by kernel_rfl) (by walk_at "d") (by delta cr; walk_at "b")
def T30 : bP := ("is_note_name", 2, ["thing"], aQ) :: T29
def g8 : FnS := (aF (iZ (ah bi 4 (aa (ab 0) (aa (fC (.str "abcdefghijklmnopqrstuvwxyz0123456789-_./")) (aa (fC (.int 1)) (aa (fC (.int 20)) ag))))) (fM (sS Txt.startswith) (ab 0) (aa (fC (.str "/")) ag))))
def cE : List Dv → Option (Rs Dv) := aZ 1 g8
theorem oE (A : Af K "is_path" kY f) (t : HA P w K mg base T30) : Has P w K mg base "is_path" 2 ["thing"] cE :=
 au XI Gn ["thing"] ["thing"] g8 A (by kernel_rfl) (by kernel_rfl) (by walk_at "d") (by delta g8; walk_at "b")
def T31 : bP := ("is_path", 2, ["thing"], cE) :: T30
def fu : FnS := (aF (vOr (f2 eqX (ab 0) (fC (.str "any"))) (f2 eqX (ab 0) (fC (.str "near")))))
def dr : List Dv → Option (Rs Dv) := aZ 1 fu
theorem l3 (A : Af K "is_reach" iK f) (t : HA P w K mg base T31) : Has P w K mg base "is_reach" 1 ["thing"] dr :=
 au XI Gn ["thing"] ["thing"] fu A (by kernel_rfl) (by kernel_rfl) (by walk_at "d") (by delta fu; walk_at "b")
def T32 : bP := ("is_reach", 1, ["thing"], dr) :: T31
def cO : FnS := (aF (iZ (f1 (fY jd) (ab 0)) (f2 eqX (fB1 du (aa (ab 0) ag)) (ab 1))))
def bQ : List Dv → Option (Rs Dv) := aZ 2 cO
theorem ib (A : Af K "is_tuple_of" eE f) (t : HA P w K mg base T32) : Has P w K mg base "is_tuple_of" 1 ["thing", "parts"] bQ :=
 au XI Gn ["thing", "parts"] ["thing", "parts"] cO A (by kernel_rfl) (by kernel_rfl) (by walk_at "d") (by delta cO; walk_at "b")
def T33 : bP := ("is_tuple_of", 1, ["thing", "parts"], bQ) :: T32
def fw : FnS := (aJ (bw (bOr (dA (fB (f1 (fY j8) (ab 0)))) (fB (f2 gtD (fB1 du (aa (ab 0) ag)) (fC (.int 12))))) (aF (fC (.bl false))) (fun ρ => some (.nx ρ))) (aF (fB1 lK (aa (aT [] (bG (ab 0)) none (iZ (f2 leX (fC (.str "!")) (ab 0)) (iZ (f2 leX (ab 0) (fC (.str "~"))) (f2 j7 (ab 0) (fC (.str ";,=")))))) ag))))
def bR : List Dv → Option (Rs Dv) := aZ 1 fw
theorem l4 (A : Af K "is_worth" iL f) (t : HA P w K mg base T33) : Has P w K mg base "is_worth" 1 ["thing"] bR :=
 au XI Gn ["thing"] ["thing"] fw A (by kernel_rfl) (by kernel_rfl) (by walk_at "d") (by delta fw; walk_at "b")
def T34 : bP := ("is_worth", 1, ["thing"], bR) :: T33
def eH : FnS := (aJ (bw (dA (fB (ah bQ 2 (aa (ab 0) (aa (fC (.int 10)) ag))))) (aF (fC (.bl false))) (fun ρ => some (.nx ρ))) (aJ (bw (bOr (dA (fB (ah aV 1 (aa (f2 ixD (ab 0) (fC (.int 8))) ag)))) (dA (fB (ah aV 1 (aa (f2 ixD (ab 0) (fC (.int 9))) ag))))) (aF (fC (.bl false))) (fun ρ => some (.nx ρ))) (aF (fB1 lK (aa (fG (aa (ah aQ 1 (aa (f2 ixD (ab 0) (fC (.int 0))) ag)) (aa (ah bR 1 (aa (f2 ixD (ab 0) (fC (.int 1))) ag)) (aa (ah bq 1 (aa (f2 ixD (ab 0) (fC (.int 2))) ag)) (aa (f1 (fY cY) (f2 ixD (ab 0) (fC (.int 3)))) (aa (ah cE 1 (aa (f2 ixD (ab 0) (fC (.int 4))) ag)) (aa (ah aw 1 (aa (f2 ixD (ab 0) (fC (.int 5))) ag)) (aa (f1 (fY cY) (f2 ixD (ab 0) (fC (.int 6)))) (aa (ah dr 1 (aa (f2 ixD (ab 0) (fC (.int 7))) ag)) (aa (f2 leX (f2 ixD (ab 0) (fC (.int 8))) (f2 ixD (ab 0) (fC (.int 9)))) ag)))))))))) ag)))))
def bK : List Dv → Option (Rs Dv) := aZ 1 eH
theorem oF (A : Af K "is_note" kZ f) (t : HA P w K mg base T34) : Has P w K mg base "is_note" 4 ["thing"] bK :=
 au XI Gn ["thing"] ["thing"] eH A (by kernel_rfl) (by kernel_rfl) (by walk_at "d") (by delta eH; walk_at "b")
def T35 : bP := ("is_note", 4, ["thing"], bK) :: T34
def eI : FnS := (aJ (bw (bOr (dA (fB (f1 (fY jd) (ab 0)))) (fB (f2 gtD (fB1 du (aa (ab 0) ag)) (fC (.int 20))))) (aF (fC (.bl false))) (fun ρ => some (.nx ρ))) (aJ (bw (dA (fB (fB1 lK (aa (aT [] (bG (ab 0)) none (ah bK 1 (aa (ab 0) ag))) ag)))) (aF (fC (.bl false))) (fun ρ => some (.nx ρ))) (aF (iZ (ah bJ 1 (aa (ab 0) ag)) (ah aI 1 (aa (ab 0) ag))))))
def cP : List Dv → Option (Rs Dv) := aZ 1 eI
theorem qW (A : Af K "is_jar" nn f) (t : HA P w K mg base T35) : Has P w K mg base "is_jar" 5 ["thing"] cP :=
 au XI Gn ["thing"] ["thing"] eI A (by kernel_rfl) (by kernel_rfl) (by walk_at "d") (by delta eI; walk_at "b")
def T36 : bP := ("is_jar", 5, ["thing"], cP) :: T35
def dt : FnS := (bw (dA (fB (ah cP 1 (aa (ab 0) ag)))) ig (fun ρ => some (.nx ρ)))
def bj : List Dv → Option (Rs Dv) := aZ 1 dt
theorem l7 (A : Af K "need_jar" iM f) (t : HA P w K mg base T36) : Has P w K mg base "need_jar" 6 ["thing"] bj :=
 au XI Gn ["thing"] ["thing"] dt A (by kernel_rfl) (by kernel_rfl) (by walk_at "d") (by delta dt; walk_at "b")
def T37 : bP := ("need_jar", 6, ["thing"], bj) :: T36
def cQ : FnS := (bw (dA (fB (ah ar 3 (aa (ab 0) (aa (fC (.int 0)) (aa (fC (.int 20)) ag)))))) ig (fun ρ => some (.nx ρ)))
def aW : List Dv → Option (Rs Dv) := aZ 1 cQ
theorem lg (A : Af K "need_room" gU f) (t : HA P w K mg base T37) : Has P w K mg base "need_room" 2 ["thing"] aW :=
 au XI Gn ["thing"] ["thing"] cQ A (by kernel_rfl) (by kernel_rfl) (by walk_at "d") (by delta cQ; walk_at "b")
def T38 : bP := ("need_room", 2, ["thing"], aW) :: T37
def hJ : FnS := (aJ (bw (dA (fB (f1 (fY j8) (ab 0)))) (aF (fC (.bl false))) (fun ρ => some (.nx ρ))) (aJ (bw (fB (fM (sS Txt.startswith) (ab 0) (aa (fC (.str "*.")) ag))) (aF (ah bq 1 (aa (uN (ab 0) (fU (fC (.int 2))) i8) ag))) (fun ρ => some (.nx ρ))) (aJ (bw (fB (fM (sS Txt.startswith) (ab 0) (aa (fC (.str "!")) ag))) (aF (iZ (f2 inD (fC (.str ".")) (ab 0)) (ah bq 1 (aa (uN (ab 0) (fU (fC (.int 1))) i8) ag)))) (fun ρ => some (.nx ρ))) (aF (ah bq 1 (aa (ab 0) ag))))))
def hU : List Dv → Option (Rs Dv) := aZ 1 hJ
theorem oG (A : Af K "is_rule" k6 f) (t : HA P w K mg base T38) : Has P w K mg base "is_rule" 4 ["thing"] hU :=
 au XI Gn ["thing"] ["thing"] hJ A (by kernel_rfl) (by kernel_rfl) (by walk_at "d") (by delta hJ; walk_at "b")
def T39 : bP := ("is_rule", 4, ["thing"], hU) :: T38
def fz : FnS := (aJ (bw (bOr (dA (fB (f1 (fY jd) (ab 0)))) (fB (f2 gtD (fB1 du (aa (ab 0) ag)) (fC (.int 8))))) (aF (fC (.bl false))) (fun ρ => some (.nx ρ))) (aJ (bw (dA (fB (fB1 lK (aa (aT [] (bG (ab 0)) none (ah hU 1 (aa (ab 0) ag))) ag)))) (aF (fC (.bl false))) (fun ρ => some (.nx ρ))) (aF (fB1 lK (aa (aT [("thing", 0)] (fun ρ => bnd ((aa (fC (.int 1)) (aa (fB1 du (aa (ab 0) ag)) ag)) ρ) sn) none (f2 ltX (f2 ixD (ab 1) (f2 sN (ab 0) (fC (.int 1)))) (f2 ixD (ab 1) (ab 0)))) ag)))))
def bS : List Dv → Option (Rs Dv) := aZ 1 fz
theorem l8 (A : Af K "is_table" iN f) (t : HA P w K mg base T39) : Has P w K mg base "is_table" 5 ["thing"] bS :=
 au XI Gn ["thing"] ["thing"] fz A (by kernel_rfl) (by kernel_rfl) (by walk_at "d") (by delta fz; walk_at "b")
def T40 : bP := ("is_table", 5, ["thing"], bS) :: T39
def cf : FnS := (bw (dA (fB (ah bS 1 (aa (ab 0) ag)))) ig (fun ρ => some (.nx ρ)))
def aM : List Dv → Option (Rs Dv) := aZ 1 cf
theorem jz (A : Af K "need_table" fR f) (t : HA P w K mg base T40) : Has P w K mg base "need_table" 6 ["thing"] aM :=
 au XI Gn ["thing"] ["thing"] cf A (by kernel_rfl) (by kernel_rfl) (by walk_at "d") (by delta cf; walk_at "b")
def T41 : bP := ("need_table", 6, ["thing"], aM) :: T40
def eL : FnS := (aJ (gp (ah aM 1 (aa (ab 0) ag))) (aJ (gp (ah bj 1 (aa (ab 1) ag))) (aJ (gp (ah aW 1 (aa (ab 2) ag))) (aJ (gp (ah aW 1 (aa (ab 3) ag))) (aF (ah qV 4 (aa (ab 0) (aa (ab 1) (aa (ab 2) (aa (ab 3) ag))))))))))
def bE : List Dv → Option (Rs Dv) := aZ 4 eL
theorem qX (A : Af K "fitted" nq f) (t : HA P w K mg base T41) : Has P w K mg base "fitted" 7 ["table", "jar", "each", "most"] bE :=
 au XI Gn ["table", "jar", "each", "most"] ["table", "jar", "each", "most"] eL A (by kernel_rfl) (by kernel_rfl) (by walk_at "d") (by delta eL; walk_at "b")
def T42 : bP := ("fitted", 7, ["table", "jar", "each", "most"], bE) :: T41
def eM : FnS := (aJ (gp (ah aM 1 (aa (ab 0) ag))) (aJ (gp (ah bj 1 (aa (ab 1) ag))) (aJ (bF 2 (aT [("table", 0)] (bG (ab 1)) none (ah ax 2 (aa (ab 1) (aa (ab 0) ag))))) (aF (aT [("names", 2)] (bG (fB1 dO (aa (ab 2) ag))) none (dh (aa (ab 0) (aa (fML Be (ab 1) (aa (ab 0) ag)) ag))))))))
def cR : List Dv → Option (Rs Dv) := aZ 3 eM
theorem qY (A : Af K "groups" nr f) (t : HA P w K mg base T42) : Has P w K mg base "groups" 7 ["table", "jar"] cR :=
 au XI Gn ["table", "jar", "names"] ["table", "jar"] eM A (by kernel_rfl) (by kernel_rfl) (by walk_at "d") (by delta eM; walk_at "b")
def T43 : bP := ("groups", 7, ["table", "jar"], cR) :: T42
def mf : FnE := (ah bh 2 (aa (ab 0) (aa (fC (.int 0)) ag)))
def mh : FnE := (ah cz 3 (aa (ab 0) (aa (fC (.int 20)) (aa (fC (.int 6)) ag))))
def mi : FnE := (ah cR 2 (aa (ab 1) (aa (ab 2) ag)))
def jA : FnB := (bOr (fB (f2 neX (fB1 Bk (aa (aA 2 [] (bG (ab 3)) (gP 0 1) none (ab 1)) ag)) (fB1 du (aa (ab 2) ag)))) (fB (f2 neX (ab 3) (fB1 tV (aa (ab 3) ag)))))
def mj : FnB := (fB (f2 neX (ah bE 4 (aa (ab 1) (aa (ab 2) (aa (fC (.int 20)) (aa (fC (.int 20)) ag))))) (ab 2)))
def jB : FnB := (bOr (fB (f2 neX (ah bE 4 (aa (ab 1) (aa (ab 2) (aa (fC (.int 0)) (aa (fC (.int 20)) ag))))) (dh ag))) (fB (f2 neX (ah bE 4 (aa (ab 1) (aa (ab 2) (aa (fC (.int 20)) (aa (fC (.int 0)) ag))))) (dh ag))))
def ml : FnE := (dh ag)
def mn : FnE := (ah bE 4 (aa (ab 1) (aa (ab 2) (aa (ab 5) (aa (fC (.int 20)) ag)))))
def jC : FnB := (bOr (dA (fB (ah cP 1 (aa (ab 6) ag)))) (fB (f2 neX (aT [("_law_here", 6)] (bG (ab 4)) (some (fB (f2 cw (ab 0) (ab 1)))) (ab 0)) (fG ag))))
def jD : FnB := (fB (f2 neX (ah cR 2 (aa (ab 1) (aa (ab 6) ag))) (aA 2 [("_law_each", 5)] (bG (ab 3)) (gP 0 1) none (dh (aa (ab 0) (aa (fB1 zr (aa (ab 2) (aa (ab 1) ag))) ag))))))
def mo : FnB := (fB (f2 cw (ab 7) (ab 6)))
def mq : FnE := (aA 1 [("_law_table_here", 1), ("_law_note", 7)] (bG (ab 6)) (gN 0) (some (fB (f2 eqX (ah aG 2 (aa (ab 1) (aa (ab 0) ag))) (ah aG 2 (aa (ab 1) (aa (ab 2) ag)))))) (ab 0))
def qZ : FnB := (fB (f2 neX (aT [("_law_note", 7)] (bG (ab 8)) (some (fB (f2 ltT (dh (aa (f2 ixD (ab 0) (fC (.int 6))) (aa (f2 ixD (ab 0) (fC (.int 9))) ag))) (dh (aa (f2 ixD (ab 1) (fC (.int 6))) (aa (f2 ixD (ab 1) (fC (.int 9))) ag)))))) (ab 0)) (fG ag)))
def fA : FnS := (bw mo (aJ (bF 8 mq) (bw qZ (aF (fC (.bl false))) (fun ρ => some (.nx ρ)))) (fun ρ => some (.nx ρ)))
def rf : FnE := (ab 6)
def hX : FnS := (aJ (bF 6 mn) (aJ (bw jC (aF (fC (.bl false))) (fun ρ => some (.nx ρ))) (aJ (bw jD (aF (fC (.bl false))) (fun ρ => some (.nx ρ))) (aJ (mN 7 [8] (bG (ab 2)) fA) (bF 4 rf)))))
def mr : FnE := (dh ag)
def ms : FnE := (ah bE 4 (aa (ab 1) (aa (ab 2) (aa (fC (.int 20)) (aa (ab 9) ag)))))
def jE : FnB := (fB (f2 neX (fB1 du (aa (ab 6) ag)) (fB1 zr (aa (ab 9) (aa (fB1 du (aa (ab 2) ag)) ag)))))
def jF : FnB := (fB (f2 neX (aT [("_law_here", 6)] (bG (ab 4)) (some (fB (f2 cw (ab 0) (ab 1)))) (ab 0)) (fG ag)))
def mt : FnB := (fB (f2 neX (ah bE 4 (aa (ab 1) (aa (ab 6) (aa (fC (.int 20)) (aa (ab 9) ag))))) (ab 6)))
def jG : FnB := (fB (f2 neX (aT [("_law_here", 6)] (bG (ab 2)) (some (fB (f2 inX (ab 0) (ab 1)))) (ab 0)) (fB1 wn (aa (ab 6) ag))))
def rg : FnE := (ab 6)
def fD : FnS := (aJ (bF 6 ms) (aJ (bw jE (aF (fC (.bl false))) (fun ρ => some (.nx ρ))) (aJ (bw jF (aF (fC (.bl false))) (fun ρ => some (.nx ρ))) (aJ (bw mt (aF (fC (.bl false))) (fun ρ => some (.nx ρ))) (aJ (bw jG (aF (fC (.bl false))) (fun ρ => some (.nx ρ))) (bF 4 rg))))))
def rh : FnS := (aJ (bF 1 mf) (aJ (bF 2 mh) (aJ (bF 3 mi) (aJ (bw jA (aF (fC (.bl false))) (fun ρ => some (.nx ρ))) (aJ (bw mj (aF (fC (.bl false))) (fun ρ => some (.nx ρ))) (aJ (bw jB (aF (fC (.bl false))) (fun ρ => some (.nx ρ))) (aJ (bF 4 ml) (aJ (mN 5 [5, 8] (bG (dh (aa (fC (.int 1)) (aa (fC (.int 2)) (aa (fC (.int 3)) (aa (fC (.int 6)) ag)))))) hX) (aJ (bF 4 mr) (aJ (mN 9 [9, 6] (fun ρ => bnd ((aa (fC (.int 7)) ag) ρ) j4) fD) (aF (fC (.bl true)))))))))))))
def ri : List Dv → Option (Rs Dv) := aZ 10 rh
theorem Ar {fd : FuncData} (A : Fun K "law" "law" Ao f fd) (t : HA P w K mg base T43) : FnOk P w K mg base CX0 8 f fd ["_law_script"] (spF K ri 1) :=
 uJ ["_law_script", "_law_table_here", "_law_jar_here", "_law_rows", "_law_last", "_law_each", "_law_here", "_law_note", "_law_left", "_law_most"] ["_law_script"] rh (by kernel_rfl) (by kernel_rfl) A (Dx (by kernel_rfl)) (by delta rh mf mh mi jA mj jB ml mn jC jD mo mq qZ fA rf hX mr ms jE jF mt jG rg fD; walk_at "b")
end
theorem af {K : PySem.W.Frag} {x : Str} {st : Stmt} (f : Addr) (m : String) (t c : Nat) (a : nsM K x = some (some (.ref f)) := by kernel_rfl) (l : K.lookup f = some ⟨Value.type "function", none, .func (PySem.W.fnOf x x (eU st) (cg st) (aE st) .none .none .none (kS m t) none (kR c) .none), #[]⟩ := by kernel_rfl) (cc : PySem.W.codeIn K (kR c) x = true := by kernel_rfl) (k : PySem.W.keepIn K (.ref f) = true := by kernel_rfl) : Af K x st f := ⟨a, ⟨_, yn l cc k⟩, k⟩
theorem all_mk {l : PySem.W.OpenLaw} {w : World} {K : PySem.W.Frag} {h : Heap} {mg : Str → Option Value} {fa : Addr} (X : K.In h) (G : h.Ns mainGlobals mg) (hfa : mg "law" = some (.ref fa))
 {f1 f2 f3 f4 f5 f6 f7 f8 f9 f10 f11 f12 f13 f14 f15 f16 f17 f18 f19 f20 f21 f22 f23 f24 f25 f26 f27 f28 f29 f30 f31 f32 f33 f34 f35 f36 f37 f38 f39 f40 f41 f42 f43 fl : Addr}
 (A1 : Af K "_law_ends" gM f1)
 (A2 : Af K "_law_open" gO f2)
 (A3 : Af K "_law_own" iF f3)
 (A4 : Af K "_law_group" fK f4)
 (A5 : Af K "_law_cell" gQ f5)
 (A6 : Af K "_law_drawn" fL f6)
 (A7 : Af K "_law_name" gR f7)
 (A8 : Af K "_law_path" gS f8)
 (A9 : Af K "_law_jar" iG f9)
 (A10 : Af K "_law_table" fN f10)
 (A11 : Af K "ends_longest_first" bO f11)
 (A12 : Af K "behind_first_dot" cb f12)
 (A13 : Af K "is_told_open" dD f13)
 (A14 : Af K "find_open_end" c8 f14)
 (A15 : Af K "find_own_end" dE f15)
 (A16 : Af K "group_of" iH f16)
 (A17 : Af K "rank" vb f17)
 (A18 : Af K "too_many" iI f18)
 (A19 : Af K "without" kW f19)
 (A20 : Af K "fit" Am f20)
 (A21 : Af K "key" An f21)
 (A22 : Af K "has_no_key_twice" ce f22)
 (A23 : Af K "is_by_made" fP f23)
 (A24 : Af K "is_whole_number" cy f24)
 (A25 : Af K "is_moment" gT f25)
 (A26 : Af K "is_moment_or_none" bV f26)
 (A27 : Af K "is_text_of" fQ f27)
 (A28 : Af K "is_label" iJ f28)
 (A29 : Af K "is_name" kX f29)
 (A30 : Af K "is_note_name" dF f30)
 (A31 : Af K "is_path" kY f31)
 (A32 : Af K "is_reach" iK f32)
 (A33 : Af K "is_tuple_of" eE f33)
 (A34 : Af K "is_worth" iL f34)
 (A35 : Af K "is_note" kZ f35)
 (A36 : Af K "is_jar" nn f36)
 (A37 : Af K "need_jar" iM f37)
 (A38 : Af K "need_room" gU f38)
 (A39 : Af K "is_rule" k6 f39)
 (A40 : Af K "is_table" iN f40)
 (A41 : Af K "need_table" fR f41)
 (A42 : Af K "fitted" nq f42)
 (A43 : Af K "groups" nr f43)
 (AL : Af K "law" Ao fl) (ma : CC.all (Cy K) = true) :
 ∃ fd : FuncData, (∀ (s : Shared) (v : Value), BindsTo s fd ⟨[v], []⟩ [("_law_script", v)]) ∧ ∀ base : Heap, K.In base → base.Ns mainGlobals mg → FnOk l.prog w K mg base CX0 8 fa fd ["_law_script"] (spF K ri 1) := by
 have e := hfa.symm.trans (PySem.W.mg_of X G AL.a)
 cases e
 have M := zV X G CC ma
 obtain ⟨fd, Fn⟩ := AL.F
 refine ⟨fd, ?_, fun base _ _ => ?_⟩
 · obtain ⟨oc, od, kV, doc, pm, an, cdv, ct, osl, rfl, lk, hcd⟩ := Fn.ex
   exact fun s v => .of_eq rfl
 have t0 : HA l.prog w K mg base T0 := zT
 have t1 : HA l.prog w K mg base T1 := ak (k7 X G M A1 t0) t0
 have t2 : HA l.prog w K mg base T2 := ak (k8 X G M A2 t1) t1
 have t3 : HA l.prog w K mg base T3 := ak (lV X G M A3 t2) t2
 have t4 : HA l.prog w K mg base T4 := ak (ju X G M A4 t3) t3
 have t5 : HA l.prog w K mg base T5 := ak (k9 X G M A5 t4) t4
 have t6 : HA l.prog w K mg base T6 := ak (jv X G M A6 t5) t5
 have t7 : HA l.prog w K mg base T7 := ak (lb X G M A7 t6) t6
 have t8 : HA l.prog w K mg base T8 := ak (lc X G M A8 t7) t7
 have t9 : HA l.prog w K mg base T9 := ak (lW X G M A9 t8) t8
 have t10 : HA l.prog w K mg base T10 := ak (jw X G M A10 t9) t9
 have t11 : HA l.prog w K mg base T11 := ak (da X G M A11 t10) t10
 have t12 : HA l.prog w K mg base T12 := ak (dY X G M A12 t11) t11
 have t13 : HA l.prog w K mg base T13 := ak (gW X G M A13 t12) t12
 have t14 : HA l.prog w K mg base T14 := ak (fW X G M A14 t13) t13
 have t15 : HA l.prog w K mg base T15 := ak (gX X G M A15 t14) t14
 have t16 : HA l.prog w K mg base T16 := ak (lX X G M A16 t15) t15
 have t17 : HA l.prog w K mg base T17 := ak (w6 X G M A17 t16) t16
 have t18 : HA l.prog w K mg base T18 := ak (lY X G M A18 t17) t17
 have t19 : HA l.prog w K mg base T19 := ak (oB X G M A19 t18) t18
 have t20 : HA l.prog w K mg base T20 := ak (Ap X G M A20 t19) t19
 have t21 : HA l.prog w K mg base T21 := ak (Aq X G M A21 t20) t20
 have t22 : HA l.prog w K mg base T22 := ak (d5 X G M A22 t21) t21
 have t23 : HA l.prog w K mg base T23 := ak (jx X G M A23 t22) t22
 have t24 : HA l.prog w K mg base T24 := ak (eG X G M A24 t23) t23
 have t25 : HA l.prog w K mg base T25 := ak (ld X G M A25 t24) t24
 have t26 : HA l.prog w K mg base T26 := ak (dv X G M A26 t25) t25
 have t27 : HA l.prog w K mg base T27 := ak (jy X G M A27 t26) t26
 have t28 : HA l.prog w K mg base T28 := ak (l0 X G M A28 t27) t27
 have t29 : HA l.prog w K mg base T29 := ak (oD X G M A29 t28) t28
 have t30 : HA l.prog w K mg base T30 := ak (gZ X G M A30 t29) t29
 have t31 : HA l.prog w K mg base T31 := ak (oE X G M A31 t30) t30
 have t32 : HA l.prog w K mg base T32 := ak (l3 X G M A32 t31) t31
 have t33 : HA l.prog w K mg base T33 := ak (ib X G M A33 t32) t32
 have t34 : HA l.prog w K mg base T34 := ak (l4 X G M A34 t33) t33
 have t35 : HA l.prog w K mg base T35 := ak (oF X G M A35 t34) t34
 have t36 : HA l.prog w K mg base T36 := ak (qW X G M A36 t35) t35
 have t37 : HA l.prog w K mg base T37 := ak (l7 X G M A37 t36) t36
 have t38 : HA l.prog w K mg base T38 := ak (lg X G M A38 t37) t37
 have t39 : HA l.prog w K mg base T39 := ak (oG X G M A39 t38) t38
 have t40 : HA l.prog w K mg base T40 := ak (l8 X G M A40 t39) t39
 have t41 : HA l.prog w K mg base T41 := ak (jz X G M A41 t40) t40
 have t42 : HA l.prog w K mg base T42 := ak (qX X G M A42 t41) t41
 have t43 : HA l.prog w K mg base T43 := ak (qY X G M A43 t42) t42
 exact Ar X G M Fn t43
end G
set_option maxHeartbeats 4000000
namespace FD
open PySem PySem.Spec PyProof.Rows L2
theorem nv {elt : FnE} {cap : Ev} {α : Type} (en : α → Dv) (f : α → Dv) : ∀ {l : List α}, (∀ a ∈ l, elt (cap.set 0 (some (en a))) = some (.ok (f a))) → pJ none elt cap (l.map en) = some (l.map f)
 | [], _ => rfl
 | a :: l, h => by
  have ih := nv (elt := elt) (cap := cap) en f (l := l) fun b hb => h b (List.mem_cons_of_mem _ hb)
  rw [List.map_cons, List.map_cons]
  unfold pJ
  dsimp only
  rw [h a List.mem_cons_self, ih]
theorem lh {tst : FnB} {elt : FnE} {cap : Ev} {α : Type} (en : α → Dv) (p : α → Bool) (f : α → Dv) : ∀ {l : List α}, (∀ a ∈ l, tst (cap.set 0 (some (en a))) = some (.ok (p a)) ∧ elt (cap.set 0 (some (en a))) = some (.ok (f a))) → pJ (some tst) elt cap (l.map en) = some ((l.filter p).map f)
 | [], _ => rfl
 | a :: l, h => by
  have ih := lh (tst := tst) (elt := elt) (cap := cap) en p f (l := l) fun b hb => h b (List.mem_cons_of_mem _ hb)
  obtain ⟨h1, h2⟩ := h a List.mem_cons_self
  rw [List.map_cons]
  unfold pJ
  dsimp only
  rw [h1, ih]
  cases q : p a with
  | true => dsimp only; rw [h2, List.filter_cons_of_pos q]; rfl
  | false => dsimp only; rw [List.filter_cons_of_neg (by rw [q]; decide)]
theorem ny {elt : FnE} {cap : Ev} {α : Type} (en : α → Dv) (f : α → Dv) : ∀ {l : List α}, (∀ a ∈ l, elt (cap.set 0 (some (en a))) = some (.ok (f a))) → eQ (gN 0) none elt cap (l.map en) = some (l.map f)
 | [], _ => rfl
 | a :: l, h => by
  have ih := ny (elt := elt) (cap := cap) en f (l := l) fun b hb => h b (List.mem_cons_of_mem _ hb)
  rw [List.map_cons, List.map_cons]
  unfold eQ
  show (match elt (cap.set 0 (some (en a))) with | some (.ok y) => _ | _ => _) = _
  rw [h a List.mem_cons_self, ih]
theorem li {tst : FnB} {elt : FnE} {cap : Ev} {α : Type} (en : α → Dv) (p : α → Bool) (f : α → Dv) : ∀ {l : List α}, (∀ a ∈ l, tst (cap.set 0 (some (en a))) = some (.ok (p a)) ∧ elt (cap.set 0 (some (en a))) = some (.ok (f a))) → eQ (gN 0) (some tst) elt cap (l.map en) = some ((l.filter p).map f)
 | [], _ => rfl
 | a :: l, h => by
  have ih := li (tst := tst) (elt := elt) (cap := cap) en p f (l := l) fun b hb => h b (List.mem_cons_of_mem _ hb)
  obtain ⟨h1, h2⟩ := h a List.mem_cons_self
  rw [List.map_cons]
  unfold eQ
  show (match tst (cap.set 0 (some (en a))) with | some (.ok true) => _ | some (.ok false) => _ | _ => _) = _
  rw [h1, ih]
  cases q : p a with
  | true => dsimp only; rw [h2, List.filter_cons_of_pos q]; rfl
  | false => dsimp only; rw [List.filter_cons_of_neg (by rw [q]; decide)]
theorem eN {cs : List (Str × Nat)} {src : FnA} {elt : FnE} {ρ : Ev} {α : Type} (en f : α → Dv) {l : List α} (hs : src ρ = some (.ok (l.map en))) (hl : l.length ≤ 100000) (h : ∀ a ∈ l, elt ((sr cs ρ).set 0 (some (en a))) = some (.ok (f a))) : aT cs src none elt ρ = some (.ok (.lst (l.map f))) := by
 unfold aT
 rw [hs]
 show (match pJ none elt (sr cs ρ) (l.map en) with | some ys => _ | none => _) = _
 rw [nv en f h]
 dsimp only
 rw [if_pos ⟨by simpa using hl, by simpa using hl⟩]
theorem df {cs : List (Str × Nat)} {src : FnA} {tst : FnB} {elt : FnE} {ρ : Ev} {α : Type} (en : α → Dv) (p : α → Bool) (f : α → Dv) {l : List α} (hs : src ρ = some (.ok (l.map en))) (hl : l.length ≤ 100000) (h : ∀ a ∈ l, tst ((sr cs ρ).set 0 (some (en a))) = some (.ok (p a)) ∧ elt ((sr cs ρ).set 0 (some (en a))) = some (.ok (f a))) :
 aT cs src (some tst) elt ρ = some (.ok (.lst ((l.filter p).map f))) := by
 unfold aT
 rw [hs]
 show (match pJ (some tst) elt (sr cs ρ) (l.map en) with | some ys => _ | none => _) = _
 rw [lh en p f h]
 dsimp only
 have := List.length_filter_le p l
 rw [if_pos ⟨by simp; omega, by simpa using hl⟩]
theorem rj {cs : List (Str × Nat)} {src : FnA} {elt : FnE} {ρ : Ev} {α : Type} (en f : α → Dv) {l : List α} (hs : src ρ = some (.ok (l.map en))) (hl : l.length ≤ 100000) (h : ∀ a ∈ l, elt ((cZ 1 cs ρ).set 0 (some (en a))) = some (.ok (f a))) : aA 1 cs src (gN 0) none elt ρ = some (.ok (.lst (l.map f))) := by
 unfold aA
 rw [hs]
 show (match eQ (gN 0) none elt (cZ 1 cs ρ) (l.map en) with | some ys => _ | none => _) = _
 rw [ny en f h]
 dsimp only
 rw [if_pos ⟨by simpa using hl, by simpa using hl⟩]
theorem iO {cs : List (Str × Nat)} {src : FnA} {tst : FnB} {elt : FnE} {ρ : Ev} {α : Type} (en : α → Dv) (p : α → Bool) (f : α → Dv) {l : List α} (hs : src ρ = some (.ok (l.map en))) (hl : l.length ≤ 100000) (h : ∀ a ∈ l, tst ((cZ 1 cs ρ).set 0 (some (en a))) = some (.ok (p a)) ∧ elt ((cZ 1 cs ρ).set 0 (some (en a))) = some (.ok (f a))) :
 aA 1 cs src (gN 0) (some tst) elt ρ = some (.ok (.lst ((l.filter p).map f))) := by
 unfold aA
 rw [hs]
 show (match eQ (gN 0) (some tst) elt (cZ 1 cs ρ) (l.map en) with | some ys => _ | none => _) = _
 rw [li en p f h]
 dsimp only
 have := List.length_filter_le p l
 rw [if_pos ⟨by simp; omega, by simpa using hl⟩]
theorem w9 {i j : Int} (h : -(2 ^ 62) ≤ i ∧ i < 2 ^ 62 ∧ -(2 ^ 62) ≤ j ∧ j < 2 ^ 62) : sn [.int i, .int j] = some (.ok (rng i (j - i).toNat)) := by rw [sn, if_pos h]
theorem xa {j : Int} (h : -(2 ^ 62) ≤ j ∧ j < 2 ^ 62) : j4 [.int j] = some (.ok (rng 0 j.toNat)) := by rw [j4, if_pos h]
theorem xb {n : Nat} (h : n ≤ 1000) : -(2 ^ 62) ≤ (1 : Int) ∧ (1 : Int) < 2 ^ 62 ∧ -(2 ^ 62) ≤ (n : Int) ∧ (n : Int) < 2 ^ 62 := by omega
theorem As {n : Nat} (h : n ≤ 1000) : sn [.int 1, .int (n : Int)] = some (.ok (rng 1 ((n : Int) - 1).toNat)) := w9 (xb h)
theorem vd {n : Nat} (h : n ≤ 1000) : j4 [.int (n : Int)] = some (.ok (rng 0 n)) := by
 rw [xa (by omega)]; rfl
theorem lj {α : Type} (p : α → Bool) : ∀ l : List α, jc (l.map fun a => Dv.bl (p a)) = some (l.map p)
 | [] => rfl
 | a :: l => by
  show (match jc (l.map fun a => Dv.bl (p a)) with | some bs => some (p a :: bs) | none => none) = _
  rw [lj p l]
  rfl
mutual
def pln : Dv → Bool
 | .exn _ => false
 | .tup ds => plns ds
 | .lst ds => plns ds
 | _ => true
def plns : List Dv → Bool
 | [] => true
 | d :: ds => pln d && plns ds
end
mutual
theorem nz : ∀ d : Dv, pln d = true → PyData.eqv (bm d) (bm d) = true
 | .non, _ => by simp [bm, PyData.eqv]
 | .bl b, _ => by simp [bm, PyData.eqv]
 | .int b, _ => by simp [bm, PyData.eqv]
 | .str b, _ => by simp [bm, PyData.eqv]
 | .tup ds, h => by simp only [bm, PyData.eqv]; exact eqvs_refl ds (by simpa [pln] using h)
 | .lst ds, h => by simp only [bm, PyData.eqv]; exact eqvs_refl ds (by simpa [pln] using h)
 | .scr ns, _ => by
  simp only [bm, PyData.eqv]
  induction ns with
  | nil => simp [PyData.eqvAll]
  | cons n ns ih => simp [PyData.eqvAll, PyData.eqv]; exact ih rfl
 | .exn _, h => by simp [pln] at h
theorem eqvs_refl : ∀ ds : List Dv, plns ds = true → PyData.eqvAll (toPys ds) (toPys ds) = true
 | [], _ => by simp [toPys, PyData.eqvAll]
 | d :: ds, h => by
  have h' : pln d = true ∧ plns ds = true := by simpa [plns] using h
  simp only [toPys, PyData.eqvAll, Bool.and_eq_true]
  exact ⟨nz d h'.1, eqvs_refl ds h'.2⟩
end
theorem xc {d : Dv} (h1 : okP d = true) (h2 : pln d = true) : neX d d = some (.ok (.bl false)) := by
 unfold neX
 split
 · rename_i b hb
   have : b = true := by
    cases d <;> simp [eqS] at hb
    · exact hb
    · exact hb
    · exact hb
    · rw [← hb]; unfold seq; simp
   rw [this]; rfl
 · rw [h1, nz d h2]; rfl
structure It1 (k : Nat) (d : Dv) : Prop where
 c : PyData.canLay0 (bm d) = true
 dp : (bm d).depth ≤ k
 p : pln d = true
theorem uh {k : Nat} : ∀ {ds : List Dv}, (∀ d ∈ ds, It1 k d) → PyData.canLayAll0 (toPys ds) = true ∧ PyData.depthAll (toPys ds) ≤ k ∧ plns ds = true
 | [], _ => by simp [toPys, PyData.canLayAll0, PyData.depthAll, plns]
 | d :: ds, h => by
  obtain ⟨h1, h2, h3⟩ := uh (ds := ds) fun d' hd => h d' (List.mem_cons_of_mem _ hd)
  have h0 := h d List.mem_cons_self
  simp only [toPys, PyData.canLayAll0, PyData.depthAll, plns, Bool.and_eq_true]
  exact ⟨⟨h0.c, h1⟩, by have := h0.dp; omega, h0.p, h3⟩
theorem nA {k : Nat} {ds : List Dv} (h : ∀ d ∈ ds, It1 k d) : It1 (k + 1) (.tup ds) := by
 obtain ⟨h1, h2, h3⟩ := uh h
 exact ⟨by simpa [bm, PyData.canLay0] using h1, by simp [bm, PyData.depth]; exact h2, by simpa [pln] using h3⟩
theorem rk {k : Nat} {ds : List Dv} (h : ∀ d ∈ ds, It1 k d) : It1 (k + 1) (.lst ds) := by
 obtain ⟨h1, h2, h3⟩ := uh h
 exact ⟨by simpa [bm, PyData.canLay0] using h1, by simp [bm, PyData.depth]; exact h2, by simpa [pln] using h3⟩
theorem It1.okP {k : Nat} {d : Dv} (h : It1 k d) (hk : k ≤ 64) : okP d = true := by
 unfold FD.okP SeqAt.shaped
 rw [h.c]
 have := h.dp
 simp
 omega
theorem It1.le {k m : Nat} {d : Dv} (h : It1 k d) (hk : k ≤ m) : It1 m d := ⟨h.c, Nat.le_trans h.dp hk, h.p⟩
theorem eP {x : Str} (h : PyData.canLay0 (.str x) = true) : It1 0 (.str x) := ⟨h, by simp [bm, PyData.depth], rfl⟩
theorem nB {i : Int} : It1 0 (.int i) := ⟨rfl, by simp [bm, PyData.depth], rfl⟩
theorem At {i : Bool} : It1 0 (.bl i) := ⟨rfl, by simp [bm, PyData.depth], rfl⟩
theorem Au : It1 0 .non := ⟨rfl, by simp [bm, PyData.depth], rfl⟩
theorem lm {α : Type} (f : α → Dv) : ∀ l : List α, toPys (l.map f) = l.map fun a => bm (f a)
 | [] => rfl
 | a :: l => by simp [toPys, lm f l]
theorem ui {x : Dv} {α : Type} {en : α → Dv} {l : List α} {p : α → Bool} (hx : It1 5 x) (hf : cu x = false) (hl : ∀ a ∈ l, It1 5 (en a)) (hp : ∀ a ∈ l, PyData.eqv (bm (en a)) (bm x) = p a) : inX x (.lst (l.map en)) = some (.ok (.bl (l.any p))) ∧ cw x (.lst (l.map en)) = some (.ok (.bl (!l.any p))) ∧ inX x (.tup (l.map en)) = some (.ok (.bl (l.any p))) ∧ cw x (.tup (l.map en)) = some (.ok (.bl (!l.any p))) := by
 have e : inP x (l.map en) = some (l.any p) := by
  unfold inP
  have h1 := hx.okP (by omega)
  have h2 := (uh (k := 5) (ds := l.map en) (by intro d hd; obtain ⟨a, ha, rfl⟩ := List.mem_map.mp hd; exact hl a ha)).1
  have h3 : decide ((bm x).depth ≤ 63) = true := by have := hx.dp; simp; omega
  rw [h1, h2, h3]
  simp only [Bool.and_self, if_true]
  rw [lm]
  congr 1
  clear h1 h2 h3 hl hx
  induction l with
  | nil => rfl
  | cons a l ih =>
   simp only [List.map_cons, List.any_cons]
   rw [hp a List.mem_cons_self, ih fun b hb => hp b (List.mem_cons_of_mem _ hb)]
 have e0 : ∀ ys, inL x ys = none := fun ys => by unfold inL; rw [hf]; rfl
 have n1 : vV x (.lst (l.map en)) = none := by cases x <;> first | exact e0 _ | rfl
 have n2 : vV x (.tup (l.map en)) = none := by cases x <;> first | exact e0 _ | rfl
 refine ⟨?_, ?_, ?_, ?_⟩ <;> simp [inX, cw, zi, n1, n2, e]
end FD
namespace G
open PySem PySem.Spec PyProof.Rows L2 FD
theorem xf (ns : List Int) (hl : ns.length ≤ 63) (k : Int) : ∃ c, aU [.scr ns, .int k] = some (.ok (.int c)) := by
 cases ns with
 | nil => exact ⟨7 * k, by kernel_rfl⟩
 | cons n r =>
  have h0 : 0 < (n :: r).length := by simp
  have h1 : (0 : Int) < ((n :: r).length : Int) := by omega
  have h2 : ((n :: r).length : Int) < 1073741824 := by omega
  have h3 : 0 ≤ k % ((n :: r).length : Int) := Int.emod_nonneg _ (by omega)
  have h4 : k % ((n :: r).length : Int) < ((n :: r).length : Int) := Int.emod_lt_of_pos _ h1
  have h5 : (k % ((n :: r).length : Int)).toNat < (n :: r).length := by omega
  refine ⟨(n :: r)[(k % ((n :: r).length : Int)).toNat] + 6553 * (k / ((n :: r).length : Int)), ?_⟩
  have hat : atD (n :: r) (k % ((n :: r).length : Int)) = some (n :: r)[(k % ((n :: r).length : Int)).toNat] := by
   unfold atD
   rw [if_pos h3, List.getElem?_eq_getElem h5]
  have hm : ef (.int k) (.int ((n :: r).length : Int)) = some (.ok (.int (k % ((n :: r).length : Int)))) := by
   show (if 0 < ((n :: r).length : Int) then _ else _) = _
   rw [if_pos h1]
  have hd : el (.int k) (.int ((n :: r).length : Int)) = some (.ok (.int (k / ((n :: r).length : Int)))) := by
   show (if 0 < ((n :: r).length : Int) ∧ ((n :: r).length : Int) < 1073741824 then _ else _) = _
   rw [if_pos ⟨h1, h2⟩]
  have hi : ixD (.scr (n :: r)) (.int (k % ((n :: r).length : Int))) = some (.ok (.int (n :: r)[(k % ((n :: r).length : Int)).toNat])) := by
   show (match atD (n :: r) (k % ((n :: r).length : Int)) with | some d => _ | none => _) = _
   rw [hat]
  show (match bW [some (.scr (n :: r)), some (.int k)] with | some (.nx _) => _ | some (.rt d) => _ | _ => _) = _
  have e : bW [some (.scr (n :: r)), some (.int k)] = cT (bnd (bnd (ef (.int k) (.int ((n :: r).length : Int))) fun i => ixD (.scr (n :: r)) i) fun x => bnd (bnd (el (.int k) (.int ((n :: r).length : Int))) fun q => fT (.int 6553) q) fun y => ec x y) fun d => some (.rt d) := by kernel_rfl
  rw [e, hm, hd]
  show (match cT (bnd (ixD (.scr (n :: r)) (.int (k % ((n :: r).length : Int)))) fun x => _) _ with | some (.nx _) => _ | some (.rt d) => _ | _ => _) = _
  rw [hi]
  kernel_rfl
def dr1 (c k : Int) : Int := (c % 2147483563 * 69069 + 104723 * (k + 1)) % 2147483563
def dr2 (c : Int) : Int := (c * c + c / 3) % 2147483399
def dr3 (c m : Int) : Int := (c * c + c / 7) % 2147483647 / 11 % m
theorem ln {i j : Int} (h : (-18446744073709551616 < i ∧ i < 18446744073709551616) ∨ (-18446744073709551616 < j ∧ j < 18446744073709551616)) : fT (.int i) (.int j) = some (.ok (.int (i * j))) := by
 show (if _ then _ else _) = _
 rw [if_pos h]
theorem lq {i j : Int} (h : 0 < j) : ef (.int i) (.int j) = some (.ok (.int (i % j))) := by
 show (if _ then _ else _) = _
 rw [if_pos h]
theorem aX (ns : List Int) (hl : ns.length ≤ 63) (k m : Int) (hm : 0 < m) : ∃ d : Int, 0 ≤ d ∧ d < m ∧ ac [.scr ns, .int k, .int m] = some (.ok (.int d)) := by
 obtain ⟨c, hc⟩ := xf ns hl k
 refine ⟨dr3 (dr2 (dr1 c k)) m, Int.emod_nonneg _ (by omega), Int.emod_lt_of_pos _ hm, ?_⟩
 have b1 : 0 ≤ dr1 c k ∧ dr1 c k < 2147483563 := ⟨Int.emod_nonneg _ (by omega), Int.emod_lt_of_pos _ (by omega)⟩
 have b2 : 0 ≤ dr2 (dr1 c k) ∧ dr2 (dr1 c k) < 2147483399 := ⟨Int.emod_nonneg _ (by omega), Int.emod_lt_of_pos _ (by omega)⟩
 have b0 : 0 ≤ c % 2147483563 ∧ c % 2147483563 < 2147483563 := ⟨Int.emod_nonneg _ (by omega), Int.emod_lt_of_pos _ (by omega)⟩
 show aZ 4 bg [.scr ns, .int k, .int m] = _
 have s1 : (ah aU 2 (aa (ab 0) (aa (ab 1) ag))) [some (.scr ns), some (.int k), some (.int m), none] = some (.ok (.int c)) := by
  show (match aU [.scr ns, .int k] with | some (.ok d) => (some (.ok d) : Option (Rs Dv)) | _ => none) = _
  rw [hc]
 have e1 : (bF 3 (f2 ef (f2 ec (f2 fT (f2 ef (ah aU 2 (aa (ab 0) (aa (ab 1) ag))) (fC (.int 2147483563))) (fC (.int 69069))) (f2 fT (fC (.int 104723)) (f2 ec (ab 1) (fC (.int 1))))) (fC (.int 2147483563)))) [some (.scr ns), some (.int k), some (.int m), none] = some (.nx [some (.scr ns), some (.int k), some (.int m), some (.int (dr1 c k))]) := by
  show cT (bnd (bnd (bnd (bnd ((ah aU 2 (aa (ab 0) (aa (ab 1) ag))) [some (.scr ns), some (.int k), some (.int m), none]) fun x => ef x (.int 2147483563)) fun x => fT x (.int 69069)) fun x => bnd (fT (.int 104723) (.int (k + 1))) fun y => ec x y) fun x => ef x (.int 2147483563)) (fun d => some (.nx [some (.scr ns), some (.int k), some (.int m), some d])) = _
  rw [s1]
  show cT (bnd (bnd (bnd (ef (.int c) (.int 2147483563)) fun x => fT x (.int 69069)) fun x => bnd (fT (.int 104723) (.int (k + 1))) fun y => ec x y) fun x => ef x (.int 2147483563)) _ = _
  rw [lq (by omega), ln (i := 104723) (.inl (by omega))]
  show cT (bnd (bnd (fT (.int (c % 2147483563)) (.int 69069)) fun x => ec x (.int (104723 * (k + 1)))) fun x => ef x (.int 2147483563)) _ = _
  rw [ln (.inl (by omega))]
  show cT (ef (.int (c % 2147483563 * 69069 + 104723 * (k + 1))) (.int 2147483563)) _ = _
  rw [lq (by omega)]
  rfl
 generalize hd1 : dr1 c k = d1 at *
 have e2 : (bF 3 (f2 ef (f2 ec (f2 fT (ab 3) (ab 3)) (f2 el (ab 3) (fC (.int 3)))) (fC (.int 2147483399)))) [some (.scr ns), some (.int k), some (.int m), some (.int d1)] = some (.nx [some (.scr ns), some (.int k), some (.int m), some (.int (dr2 d1))]) := by
  show cT (bnd (bnd (fT (.int d1) (.int d1)) fun x => ec x (.int (d1 / 3))) fun x => ef x (.int 2147483399)) (fun d => some (.nx [some (.scr ns), some (.int k), some (.int m), some d])) = _
  rw [ln (.inl (by omega))]
  show cT (ef (.int (d1 * d1 + d1 / 3)) (.int 2147483399)) _ = _
  rw [lq (by omega)]
  rfl
 generalize hd2 : dr2 d1 = d2 at *
 have e3 : (aF (f2 ef (f2 el (f2 ef (f2 ec (f2 fT (ab 3) (ab 3)) (f2 el (ab 3) (fC (.int 7)))) (fC (.int 2147483647))) (fC (.int 11))) (ab 2))) [some (.scr ns), some (.int k), some (.int m), some (.int d2)] = some (.rt (.int (dr3 d2 m))) := by
  show cT (bnd (bnd (bnd (bnd (fT (.int d2) (.int d2)) fun x => ec x (.int (d2 / 7))) fun x => ef x (.int 2147483647)) fun x => el x (.int 11)) fun x => ef x (.int m)) (fun d => some (.rt d)) = _
  rw [ln (.inl (by omega))]
  show cT (bnd (bnd (ef (.int (d2 * d2 + d2 / 7)) (.int 2147483647)) fun x => el x (.int 11)) fun x => ef x (.int m)) _ = _
  rw [lq (by omega)]
  show cT (ef (.int ((d2 * d2 + d2 / 7) % 2147483647 / 11)) (.int m)) _ = _
  rw [lq hm]
  rfl
 show (match bg [some (.scr ns), some (.int k), some (.int m), none] with | some (.nx _) => _ | some (.rt d) => _ | _ => _) = _
 have e : bg [some (.scr ns), some (.int k), some (.int m), none] = some (.rt (.int (dr3 d2 m))) := by
  show sq ((bF 3 _) _) (fun ρ => sq ((bF 3 _) ρ) _) = _
  rw [e1]
  show sq ((bF 3 _) [some (.scr ns), some (.int k), some (.int m), some (.int d1)]) _ = _
  rw [e2]
  exact e3
 rw [e]
def menu : List Str := [Str.ofString "a.b", Str.ofString "b", Str.ofString "x.a.b", Str.ofString "y.x.a.b", Str.ofString "c.uk", Str.ofString "uk", Str.ofString "d.c.uk", Str.ofString "e.d.c.uk", Str.ofString "w.ck", Str.ofString "v.w.ck", Str.ofString "ck", Str.ofString "g-1.a.b", Str.ofString "7.b", Str.ofString "p.q"]
def okO (o : Option (Rs Dv)) : Option (Rs Dv) := match o with
 | some (.ok d) => some (.ok d)
 | _ => none
theorem xg (ns : List Int) (hl : ns.length ≤ 63) (k : Int) : ∃ p ∈ menu, bz [.scr ns, .int k] = some (.ok (.str p)) := by
 obtain ⟨d, h0, h1, hd⟩ := aX ns hl k 14 (by omega)
 have e : bz [.scr ns, .int k] = (match cT (bnd (match ac [.scr ns, .int k, .int 14] with | some (.ok d) => (some (.ok d) : Option (Rs Dv)) | _ => none) fun i => ixD (.lst (menu.map Dv.str)) i) fun d => some (.rt d) with
  | some (.nx _) => some (.ok .non)
  | some (.rt d) => some (.ok d)
  | _ => none) := by kernel_rfl
 rw [e, hd]
 have hc : d = 0 ∨ d = 1 ∨ d = 2 ∨ d = 3 ∨ d = 4 ∨ d = 5 ∨ d = 6 ∨ d = 7 ∨ d = 8 ∨ d = 9 ∨ d = 10 ∨ d = 11 ∨ d = 12 ∨ d = 13 := by omega
 rcases hc with rfl | rfl | rfl | rfl | rfl | rfl | rfl | rfl | rfl | rfl | rfl | rfl | rfl | rfl
 · exact ⟨Str.ofString "a.b", by simp [menu], by kernel_rfl⟩
 · exact ⟨Str.ofString "b", by simp [menu], by kernel_rfl⟩
 · exact ⟨Str.ofString "x.a.b", by simp [menu], by kernel_rfl⟩
 · exact ⟨Str.ofString "y.x.a.b", by simp [menu], by kernel_rfl⟩
 · exact ⟨Str.ofString "c.uk", by simp [menu], by kernel_rfl⟩
 · exact ⟨Str.ofString "uk", by simp [menu], by kernel_rfl⟩
 · exact ⟨Str.ofString "d.c.uk", by simp [menu], by kernel_rfl⟩
 · exact ⟨Str.ofString "e.d.c.uk", by simp [menu], by kernel_rfl⟩
 · exact ⟨Str.ofString "w.ck", by simp [menu], by kernel_rfl⟩
 · exact ⟨Str.ofString "v.w.ck", by simp [menu], by kernel_rfl⟩
 · exact ⟨Str.ofString "ck", by simp [menu], by kernel_rfl⟩
 · exact ⟨Str.ofString "g-1.a.b", by simp [menu], by kernel_rfl⟩
 · exact ⟨Str.ofString "7.b", by simp [menu], by kernel_rfl⟩
 · exact ⟨Str.ofString "p.q", by simp [menu], by kernel_rfl⟩
def pths : List Str := [Str.ofString "/", Str.ofString "/x", Str.ofString "/x/", Str.ofString "/x/y", Str.ofString "/xy", Str.ofString "/x/y/z.q", Str.ofString "//", Str.ofString "/-_.9", Str.ofString "/x/y/"]
theorem xh (ns : List Int) (hl : ns.length ≤ 63) (k : Int) : ∃ p ∈ pths, bA [.scr ns, .int k] = some (.ok (.str p)) := by
 obtain ⟨d, h0, h1, hd⟩ := aX ns hl k 9 (by omega)
 have e : bA [.scr ns, .int k] = (match cT (bnd (match ac [.scr ns, .int k, .int 9] with | some (.ok d) => (some (.ok d) : Option (Rs Dv)) | _ => none) fun i => ixD (.lst (pths.map Dv.str)) i) fun d => some (.rt d) with
  | some (.nx _) => some (.ok .non)
  | some (.rt d) => some (.ok d)
  | _ => none) := by kernel_rfl
 rw [e, hd]
 have hc : d = 0 ∨ d = 1 ∨ d = 2 ∨ d = 3 ∨ d = 4 ∨ d = 5 ∨ d = 6 ∨ d = 7 ∨ d = 8 := by omega
 rcases hc with rfl | rfl | rfl | rfl | rfl | rfl | rfl | rfl | rfl
 · exact ⟨Str.ofString "/", by simp [pths], by kernel_rfl⟩
 · exact ⟨Str.ofString "/x", by simp [pths], by kernel_rfl⟩
 · exact ⟨Str.ofString "/x/", by simp [pths], by kernel_rfl⟩
 · exact ⟨Str.ofString "/x/y", by simp [pths], by kernel_rfl⟩
 · exact ⟨Str.ofString "/xy", by simp [pths], by kernel_rfl⟩
 · exact ⟨Str.ofString "/x/y/z.q", by simp [pths], by kernel_rfl⟩
 · exact ⟨Str.ofString "//", by simp [pths], by kernel_rfl⟩
 · exact ⟨Str.ofString "/-_.9", by simp [pths], by kernel_rfl⟩
 · exact ⟨Str.ofString "/x/y/", by simp [pths], by kernel_rfl⟩
theorem CO (F : List Dv → Option (Rs Dv)) {f g k : FnE} {ρ : Ev} {a b c d : Dv} (h : f ρ = some (.ok a)) (h' : g ρ = some (.ok b)) (h'' : k ρ = some (.ok c)) (hF : F [a, b, c] = some (.ok d)) : ah F 3 (aa f (aa g (aa k ag))) ρ = some (.ok d) := bC (ae h (ae h' (ae h'' av))) rfl hF
abbrev bo (k : Bool) : Option (Rs Dv) := some (.ok (.bl k))
def En : List Str := menu
theorem uj {x y : Str} (h : seq x y = true) : x = y := by
 unfold seq at h
 obtain ⟨⟨a⟩⟩ := x; obtain ⟨⟨b⟩⟩ := y
 simp at h
 rw [h]
def okY : Option (Rs Dv) → Bool
 | some (.ok (.bl true)) => true
 | _ => false
theorem lr {o : Option (Rs Dv)} (h : okY o = true) : o = some (.ok (.bl true)) := by
 unfold okY at h; split at h
 · rfl
 · cases h
def nms : List Str := [Str.ofString "n", Str.ofString "m-1", Str.ofString "safe-a", Str.ofString "N_2"]
def wts : List Str := [Str.ofString "5", Str.ofString "", Str.ofString "a!b~"]
theorem Av : (nms.all fun n => okY (aQ [.str n])) = true := by kernel_rfl
theorem Aw : (wts.all fun n => okY (bR [.str n])) = true := by kernel_rfl
theorem Ax : (En.all fun n => okY (bq [.str n])) = true := by kernel_rfl
theorem Ay : (pths.all fun n => okY (cE [.str n])) = true := by kernel_rfl
theorem Ec {n : Str} (h : n ∈ nms) : aQ [.str n] = bo true := lr (ci (p := fun n => okY (aQ [.str n])) Av h)
theorem Ed {n : Str} (h : n ∈ wts) : bR [.str n] = bo true := lr (ci (p := fun n => okY (bR [.str n])) Aw h)
theorem Ee {n : Str} (h : n ∈ En) : bq [.str n] = bo true := lr (ci (p := fun n => okY (bq [.str n])) Ax h)
theorem Ef {n : Str} (h : n ∈ pths) : cE [.str n] = bo true := lr (ci (p := fun n => okY (cE [.str n])) Ay h)
theorem me {h : Str} (q : h ∈ menu) : h ∈ En := q
theorem nE {l : List Dv} {d : Int} (h0 : 0 ≤ d) (h1 : d < l.length) : ∃ x ∈ l, ixD (.lst l) (.int d) = some (.ok x) := by
 have h2 : d.toNat < l.length := by omega
 refine ⟨l[d.toNat], List.getElem_mem h2, ?_⟩
 show (match atD l d with | some d => _ | none => _) = _
 unfold atD
 rw [if_pos h0, List.getElem?_eq_getElem h2]
theorem CP (i : Int) : aV [.int i] = bo (decide (0 ≤ i) && decide (i ≤ 9999)) := by
 have e : ar [.int i, .int 0, .int 9999] = bo (decide (0 ≤ i) && decide (i ≤ 9999)) := by
  by_cases h0 : 0 ≤ i
  · simp [ar, aZ, aC, aJ, sq, bw, aF, cT, bnd, bOr, dA, fB, toB, ab, f1, f2, iZ, fY, cY, kj, leX, h0]
  · simp [ar, aZ, aC, aJ, sq, bw, aF, cT, bnd, bOr, dA, fB, toB, ab, f1, f2, iZ, fY, cY, kj, leX, h0]
 simp [aV, aZ, cM, aF, cT, bnd, ah, aa, ag, ab, fC, e]
theorem xi {i : Int} (h0 : 0 ≤ i) (h1 : i ≤ 9999) : aV [.int i] = bo true := by
 rw [CP]; simp [h0, h1]
def Mo (u : Dv) : Prop := u = .non ∨ ∃ i : Int, 0 ≤ i ∧ i ≤ 9999 ∧ u = .int i
theorem Az {u : Dv} (h : Mo u) : aw [u] = bo true := by
 rcases h with rfl | ⟨i, h0, h1, rfl⟩
 · simp [aw, aZ, aD, aF, cT, bnd, toB, ab, fC, f2, vOr, isN]
 · simp [aw, aZ, aD, aF, cT, bnd, toB, ah, aa, ag, ab, fC, f2, vOr, isN, xi h0 h1]
theorem xj {R : Str} (h : R = Str.ofString "any" ∨ R = Str.ofString "near") : dr [.str R] = bo true ∧ ∃ r, eqX (.str R) (.str "any") = bo r ∧ eqX (.str R) (.str "near") = bo (!r) := by
 rcases h with rfl | rfl
 · exact ⟨by kernel_rfl, true, by kernel_rfl, by kernel_rfl⟩
 · exact ⟨by kernel_rfl, false, by kernel_rfl, by kernel_rfl⟩
structure Note where
 nm : Str
 w : Str
 house : Str
 ex : Bool
 path : Str
 ends : Option Int
 S : Bool
 R : Str
 md : Int
 us : Int
deriving DecidableEq
def eO : Option Int → Dv
 | none => .non
 | some i => .int i
def enc (n : Note) : Dv := .tup [.str n.nm, .str n.w, .str n.house, .bl n.ex, .str n.path, eO n.ends, .bl n.S, .str n.R, .int n.md, .int n.us]
def ek (n : Note) : Dv := .tup [.str n.nm, .str n.house, .str n.path]
def key (n : Note) : List Str := [n.nm, n.house, n.path]
structure Good (n : Note) : Prop where
 nm : n.nm ∈ nms
 w : n.w ∈ wts
 house : n.house ∈ En
 path : n.path ∈ pths
 R : n.R = Str.ofString "any" ∨ n.R = Str.ofString "near"
 ends : ∀ i, n.ends = some i → 0 ≤ i ∧ i ≤ 59
 mk0 : 0 ≤ n.md
 mu : n.md ≤ n.us
 us : n.us ≤ 39
theorem CQ {n : Note} (g : Good n) : Mo (eO n.ends) := by
 cases h : n.ends with
 | none => exact .inl rfl
 | some i => exact .inr ⟨i, (g.ends i h).1, by have := (g.ends i h).2; omega, rfl⟩
theorem AA {n : Note} (g : Good n) : bK [enc n] = bo true := by
 have e0 : bQ [enc n, .int 10] = bo true := by kernel_rfl
 have e1 := xi g.mk0 (by have := g.mu; have := g.us; omega)
 have e2 := xi (Int.le_trans g.mk0 g.mu) (by have := g.us; omega)
 have e3 : aw [eO n.ends] = bo true := Az (CQ g)
 unfold enc at e0 ⊢
 simp [bK, aZ, eH, aJ, sq, bw, aF, cT, bnd, bOr, dA, fB, toB, ah, aa, ag, ab, fC, f1, f2, ixD, atD, fG, fB1, fY, cY, e0, e1, e2, Ec g.nm, Ed g.w, Ee g.house, Ef g.path, e3, (xj g.R).1, lK, jc, leX, g.mu]
def signs0 : List Str := nms ++ (wts ++ (En ++ (pths ++ [Str.ofString "any", Str.ofString "near"])))
theorem xl : (signs0.all fun x => PyData.canLay0 (.str x)) = true := by kernel_rfl
theorem jH {x : Str} (h : x ∈ signs0) : PyData.canLay0 (.str x) = true := ci (p := fun x => PyData.canLay0 (.str x)) xl h
theorem CS (o : Option Int) : It1 0 (eO o) := by cases o; exact Au; exact nB
theorem Good.sR {n : Note} (g : Good n) : n.R ∈ signs0 := by
 unfold signs0
 rcases g.R with h | h <;> rw [h] <;> simp
theorem dH {n : Note} (g : Good n) : It1 1 (enc n) := by
 refine nA (k := 0) fun d hd => ?_
 simp only [List.mem_cons, List.not_mem_nil, or_false] at hd
 rcases hd with rfl | rfl | rfl | rfl | rfl | rfl | rfl | rfl | rfl | rfl
 · exact eP (jH (by simp [signs0, g.nm]))
 · exact eP (jH (by simp [signs0, g.w]))
 · exact eP (jH (by simp [signs0, g.house]))
 · exact At
 · exact eP (jH (by simp [signs0, g.path]))
 · exact CS _
 · exact At
 · exact eP (jH g.sR)
 · exact nB
 · exact nB
theorem AB {n : Note} (g : Good n) : It1 1 (ek n) := by
 refine nA (k := 0) fun d hd => ?_
 simp only [List.mem_cons, List.not_mem_nil, or_false] at hd
 rcases hd with rfl | rfl | rfl
 · exact eP (jH (by simp [signs0, g.nm]))
 · exact eP (jH (by simp [signs0, g.house]))
 · exact eP (jH (by simp [signs0, g.path]))
theorem AC (a b : Note) : PyData.eqv (bm (ek a)) (bm (ek b)) = decide (key a = key b) := by
 rw [Bool.eq_iff_iff]
 simp [ek, key, bm, toPys, PyData.eqv, PyData.eqvAll]
theorem AD (a b : Option Int) : PyData.eqv (bm (eO a)) (bm (eO b)) = decide (a = b) := by
 cases a <;> cases b <;> simp [eO, bm, PyData.eqv]
 rw [Bool.eq_iff_iff]; simp
theorem jI (a b : Note) : PyData.eqv (bm (enc a)) (bm (enc b)) = decide (a = b) := by
 rw [Bool.eq_iff_iff]
 have e := AD a.ends b.ends
 cases a; cases b
 simp [enc, bm, toPys, PyData.eqv, PyData.eqvAll, e]
theorem CT {a b : Note} (ga : Good a) (gb : Good b) : eqX (ek a) (ek b) = bo (decide (key a = key b)) ∧ neX (ek a) (ek b) = bo (!decide (key a = key b)) := by
 have h1 := (AB ga).okP (by omega)
 have h2 := (AB gb).okP (by omega)
 have h3 := AC a b
 have h0 : eqS (ek a) (ek b) = none := rfl
 constructor
 · unfold eqX; rw [h0, h1, h2, h3]; rfl
 · unfold neX; rw [h0, h1, h2, h3]; rfl
def ej (js : List Note) : Dv := .tup (js.map enc)
structure Jar (js : List Note) : Prop where
 g : ∀ n ∈ js, Good n
 s : ∀ i (h : i + 1 < js.length), js[i].md ≤ js[i + 1].md
 k : (js.map key).Nodup
 l : js.length ≤ 18
theorem ve {α β : Type} {o : Option (Rs α)} {a : α} {k : α → Option (Rs β)} (h : o = some (.ok a)) : bnd o k = k a := by rw [h]; rfl
theorem mv : ∀ (n : Nat) (lo : Int), rng lo n = (List.range n).map fun i : Nat => Dv.int (lo + (i : Int))
 | 0, lo => rfl
 | n + 1, lo => by
  rw [List.range_succ_eq_map]
  show Dv.int lo :: rng (lo + 1) n = _
  rw [mv n (lo + 1)]
  simp only [List.map_cons, List.map_map]
  congr 1
  · simp
  · congr 1
    funext i
    simp only [Function.comp]
    congr 1
    omega
theorem rm {f g : hZ} {ρ ρ' : Ev} {ds ds' : List Dv} (h : f ρ ds = some (.nx ρ' ds')) : dN f g ρ ds = g ρ' ds' := by unfold dN; rw [h]
theorem rn {xs : List Dv} {i : Nat} {ρ : Ev} (h : ρ[i]? = some (some (.lst xs))) : bG (ab i) ρ = some (.ok xs) := by
 unfold bG ab
 rw [h]
 rfl
theorem dI {js : List Note} {i : Nat} {ρ : Ev} (h : ρ[i]? = some (some (ej js))) : bG (ab i) ρ = some (.ok (js.map enc)) := by
 unfold bG ab
 rw [h]
 rfl
theorem ro {xs : List Note} (hg : ∀ o ∈ xs, Good o) : It1 2 (.lst (xs.map enc)) := rk fun d hd => by
 obtain ⟨x, hx, rfl⟩ := List.mem_map.mp hd
 exact dH (hg x hx)
theorem AE {xs : List Note} (hg : ∀ o ∈ xs, Good o) : It1 2 (ej xs) := nA fun d hd => by
 obtain ⟨x, hx, rfl⟩ := List.mem_map.mp hd
 exact dH (hg x hx)
theorem nil_eq {xs : List Note} (hg : ∀ o ∈ xs, Good o) : eqX (.lst (xs.map enc)) (.lst []) = bo xs.isEmpty := by
 cases xs with
 | nil => kernel_rfl
 | cons o rest =>
  have i2 := (ro hg).okP (by omega)
  have i3 : okP (.lst []) = true := by kernel_rfl
  unfold eqX
  rw [show eqS (.lst ((o :: rest).map enc)) (.lst []) = none from rfl, i2, i3]
  simp [bm, toPys, PyData.eqv, PyData.eqvAll]
theorem ls : ∀ l : List Int, imms (l.map Dv.int) = true
 | [] => rfl
 | i :: l => by show (imm (.int i) && imms (l.map Dv.int)) = true; rw [ls l]; rfl
theorem rq (a b : Int) : cv (.int a) (.int b) = some (.ok (.int (a + b))) := rfl
structure JI (B : Nat) (js : List Note) (now : Int) : Prop where
 g : ∀ n ∈ js, Good n
 s : js.Pairwise fun a b => a.md ≤ b.md
 k : (js.map key).Nodup
 l : js.length ≤ B
 n0 : 0 ≤ now
 n1 : now ≤ 3 * B
 m : ∀ n ∈ js, n.md ≤ now
theorem JI.keep {B : Nat} {js : List Note} {now d : Int} (J : JI B js now) (h0 : 0 ≤ d) (h1 : d < 4) : JI (B + 1) js (now + d) :=
 ⟨J.g, J.s, J.k, by have := J.l; omega, by have := J.n0; omega, by have := J.n1; omega, fun n hn => by have := J.m n hn; omega⟩
theorem JI.add {B : Nat} {js : List Note} {now d : Int} {n : Note} (J : JI B js now) (h0 : 0 ≤ d) (h1 : d < 4) (g : Good n) (hm : n.md = now + d) (hf : js.filter (fun o => decide (key o = key n)) = []) : JI (B + 1) (js ++ [n]) (now + d) := by
 have hk : ∀ o ∈ js, key o ≠ key n := fun o ho e => by
  have : o ∈ js.filter (fun o => decide (key o = key n)) := List.mem_filter.mpr ⟨ho, by simp [e]⟩
  rw [hf] at this; cases this
 refine ⟨fun x hx => ?_, ?_, ?_, by have := J.l; simp; omega, by have := J.n0; omega, by have := J.n1; omega, fun x hx => ?_⟩
 · rcases List.mem_append.mp hx with h | h
   · exact J.g x h
   · rw [List.mem_singleton.mp h]; exact g
 · refine List.pairwise_append.mpr ⟨J.s, List.pairwise_singleton .., fun a ha b hb => ?_⟩
   rw [List.mem_singleton.mp hb, hm]
   have := J.m a ha
   omega
 · rw [List.map_append]
   refine List.nodup_append.mpr ⟨J.k, by simp, fun a ha b hb e => ?_⟩
   obtain ⟨o, ho, rfl⟩ := List.mem_map.mp ha
   simp only [List.map_cons, List.map_nil, List.mem_singleton] at hb
   exact hk o ho (e.trans hb)
 · rcases List.mem_append.mp hx with h | h
   · have := J.m x h; omega
   · rw [List.mem_singleton.mp h, hm]; omega
theorem JI.jar {B : Nat} {js : List Note} {now : Int} (J : JI B js now) (hB : B ≤ 18) : Jar js :=
 ⟨J.g, fun i h => List.pairwise_iff_getElem.mp J.s i (i + 1) (by omega) h (by omega), J.k, by have := J.l; omega⟩
def jb (ns : List Int) (z m now : Int) : Ev := [some (.scr ns), some (.int z), some (.int m), none, some (.int now), none, none, none, none, none, none, none, none, none, none, none]
def cJ : FnB := (fB (f2 eqX (aT [("_law_note", 15)] (bG (ab 3)) (some (fB (f2 eqX (dh (aa (f2 ixD (ab 0) (fC (.int 0))) (aa (f2 ixD (ab 0) (fC (.int 2))) (aa (f2 ixD (ab 0) (fC (.int 4))) ag)))) (dh (aa (f2 ixD (ab 1) (fC (.int 0))) (aa (f2 ixD (ab 1) (fC (.int 2))) (aa (f2 ixD (ab 1) (fC (.int 4))) ag))))))) (ab 0)) (fG ag)))
theorem CU {js : List Note} {n : Note} {ρ : Ev} (hg : ∀ o ∈ js, Good o) (gn : Good n) (hl : js.length ≤ 18) (h3 : ρ[3]? = some (some (.lst (js.map enc)))) (h15 : ρ[15]? = some (some (enc n))) : cJ ρ = some (.ok (js.filter (fun o => decide (key o = key n))).isEmpty) := by
 have hc : sr [("_law_note", 15)] ρ = [none, some (enc n)] := by simp [sr, h15]
 have e1 := df (cs := [("_law_note", 15)]) (src := bG (ab 3)) (tst := (fB (f2 eqX (dh (aa (f2 ixD (ab 0) (fC (.int 0))) (aa (f2 ixD (ab 0) (fC (.int 2))) (aa (f2 ixD (ab 0) (fC (.int 4))) ag)))) (dh (aa (f2 ixD (ab 1) (fC (.int 0))) (aa (f2 ixD (ab 1) (fC (.int 2))) (aa (f2 ixD (ab 1) (fC (.int 4))) ag))))))) (elt := ab 0) (ρ := ρ) enc (fun o => decide (key o = key n)) enc (rn h3) (by omega) fun o ho => ⟨by
  rw [hc]
  exact bT ((bH (x := ek o) (y := ek n) rfl rfl).trans (CT (hg o ho) gn).1), by rw [hc]; rfl⟩
 exact bT ((bH e1 rfl).trans (nil_eq fun o ho => hg o (List.mem_filter.mp ho).1))
theorem rA (ns : List Int) (hl : ns.length ≤ 63) (z m now k : Int) {B : Nat} {js : List Note} (J : JI B js now) (hB : B ≤ 10) :
 ∃ ρ' js' now', aB ((jb ns z m now).set 5 (some (.int k))) (js.map enc) = some (.nx ρ' (js'.map enc)) ∧ fgt [5, 6, 7, 8, 9, 10, 11, 12, 13, 14, 15] ρ' = jb ns z m now' ∧ JI (B + 1) js' now' := by
 obtain ⟨here, hh⟩ : ∃ here, here = z + 1 + 14 * k := ⟨_, rfl⟩
 obtain ⟨d0, a0, b0, e0⟩ := aX ns hl here 4 (by omega)
 obtain ⟨d1, a1, b1, e1⟩ := aX ns hl (here + 1) 4 (by omega)
 obtain ⟨d2, a2, b2, e2⟩ := aX ns hl (here + 2) 3 (by omega)
 obtain ⟨d4, a4, b4, e4⟩ := aX ns hl (here + 4) 2 (by omega)
 obtain ⟨d6, a6, b6, e6⟩ := aX ns hl (here + 6) 2 (by omega)
 obtain ⟨d7, a7, b7, e7⟩ := aX ns hl (here + 7) 60 (by omega)
 obtain ⟨d8, a8, b8, e8⟩ := aX ns hl (here + 8) 2 (by omega)
 obtain ⟨d9, a9, b9, e9⟩ := aX ns hl (here + 9) 3 (by omega)
 obtain ⟨d10, a10, b10, e10⟩ := aX ns hl (here + 10) 5 (by omega)
 obtain ⟨n3, hn3, e3⟩ := xg ns hl (here + 3)
 obtain ⟨p5, hp5, e5⟩ := xh ns hl (here + 5)
 obtain ⟨x1, m1, i1⟩ := nE (l := [.str "n", .str "m-1", .str "safe-a", .str "N_2"]) a1 b1
 obtain ⟨x2, m2, i2⟩ := nE (l := [.str "5", .str "", .str "a!b~"]) a2 b2
 obtain ⟨x6, m6, i6⟩ := nE (l := [.non, .int d7]) a6 b6
 obtain ⟨x9, m9, i9⟩ := nE (l := [.str "any", .str "any", .str "near"]) a9 b9
 have g1 : ∃ nm ∈ nms, x1 = .str nm := by
  simp only [List.mem_cons, List.not_mem_nil, or_false] at m1
  rcases m1 with rfl | rfl | rfl | rfl <;> exact ⟨_, by simp [nms], rfl⟩
 have g2 : ∃ nm ∈ wts, x2 = .str nm := by
  simp only [List.mem_cons, List.not_mem_nil, or_false] at m2
  rcases m2 with rfl | rfl | rfl <;> exact ⟨_, by simp [wts], rfl⟩
 have g6 : ∃ o : Option Int, (∀ i, o = some i → 0 ≤ i ∧ i ≤ 59) ∧ x6 = eO o := by
  simp only [List.mem_cons, List.not_mem_nil, or_false] at m6
  rcases m6 with rfl | rfl
  · exact ⟨none, by simp, rfl⟩
  · exact ⟨some d7, fun i hi => by cases hi; omega, rfl⟩
 have g9 : ∃ R, (R = Str.ofString "any" ∨ R = Str.ofString "near") ∧ x9 = .str R := by
  simp only [List.mem_cons, List.not_mem_nil, or_false] at m9
  rcases m9 with rfl | rfl | rfl
  · exact ⟨_, .inl rfl, rfl⟩
  · exact ⟨_, .inl rfl, rfl⟩
  · exact ⟨_, .inr rfl, rfl⟩
 obtain ⟨nm, hnm, rfl⟩ := g1
 obtain ⟨w, hw, rfl⟩ := g2
 obtain ⟨o, ho, rfl⟩ := g6
 obtain ⟨R, hR, rfl⟩ := g9
 let n : Note := ⟨nm, w, n3, d4 == 0, p5, o, d8 == 0, R, now + d0, now + d0 + d10⟩
 have q0 := J.n0
 have q1 := J.n1
 have gn : Good n := ⟨hnm, hw, me hn3, hp5, hR, ho, by show 0 ≤ now + d0; omega, by show now + d0 ≤ now + d0 + d10; omega, by show now + d0 + d10 ≤ 39; omega⟩
 let E15 : Ev := [some (.scr ns), some (.int z), some (.int m), none, some (.int (now + d0)), some (.int k), some (.int here), some (.str nm), some (.str w), some (eO o), some (.bl (d4 == 0)), some (.tup [.str nm, .str w, .str n3, .bl (d4 == 0), .str p5]), some (.str R), some (.bl (d8 == 0)), some (.int (now + d0 + d10)), some (enc n)]
 have hc := CU (ρ := E15.set 3 (some (.lst (js.map enc)))) J.g gn (by have := J.l; omega) rfl rfl
 have hmul : fT (.int 14) (.int k) = some (.ok (.int (14 * k))) := ln (.inl (by omega))
 have hrun : aB ((jb ns z m now).set 5 (some (.int k))) (js.map enc) = wv 3 cJ (xG (ab 15)) Bh E15 (js.map enc) := by
  have eB : aB = (dN (ez 6 (f2 cv (f2 cv (ab 1) (fC (.int 1))) (f2 fT (fC (.int 14)) (ab 5)))) (dN (ez 4 (f2 cv (ab 4) (ah ac 3 (aa (ab 0) (aa (ab 6) (aa (fC (.int 4)) ag)))))) (dN (ez 7 (f2 ixD (fG (aa (fC (.str "n")) (aa (fC (.str "m-1")) (aa (fC (.str "safe-a")) (aa (fC (.str "N_2")) ag))))) (ah ac 3 (aa (ab 0) (aa (f2 cv (ab 6) (fC (.int 1))) (aa (fC (.int 4)) ag)))))) (dN (ez 8 (f2 ixD (fG (aa (fC (.str "5")) (aa (fC (.str "")) (aa (fC (.str "a!b~")) ag)))) (ah ac 3 (aa (ab 0) (aa (f2 cv (ab 6) (fC (.int 2))) (aa (fC (.int 3)) ag)))))) (dN (ez 9 (f2 ixD (fG (aa (fC .non) (aa (ah ac 3 (aa (ab 0) (aa (f2 cv (ab 6) (fC (.int 7))) (aa (fC (.int 60)) ag)))) ag))) (ah ac 3 (aa (ab 0) (aa (f2 cv (ab 6) (fC (.int 6))) (aa (fC (.int 2)) ag)))))) (dN (ez 10 (f2 eqX (ah ac 3 (aa (ab 0) (aa (f2 cv (ab 6) (fC (.int 4))) (aa (fC (.int 2)) ag)))) (fC (.int 0)))) (dN (ez 11 (dh (aa (ab 7) (aa (ab 8) (aa (ah bz 2 (aa (ab 0) (aa (f2 cv (ab 6) (fC (.int 3))) ag))) (aa (ab 10) (aa (ah bA 2 (aa (ab 0) (aa (f2 cv (ab 6) (fC (.int 5))) ag))) ag))))))) (dN (ez 12 (f2 ixD (fG (aa (fC (.str "any")) (aa (fC (.str "any")) (aa (fC (.str "near")) ag)))) (ah ac 3 (aa (ab 0) (aa (f2 cv (ab 6) (fC (.int 9))) (aa (fC (.int 3)) ag)))))) (dN (ez 13 (f2 eqX (ah ac 3 (aa (ab 0) (aa (f2 cv (ab 6) (fC (.int 8))) (aa (fC (.int 2)) ag)))) (fC (.int 0)))) (dN (ez 14 (f2 cv (ab 4) (ah ac 3 (aa (ab 0) (aa (f2 cv (ab 6) (fC (.int 10))) (aa (fC (.int 5)) ag)))))) (dN (ez 15 (f2 cv (ab 11) (dh (aa (ab 9) (aa (ab 13) (aa (ab 12) (aa (ab 4) (aa (ab 14) ag)))))))) (wv 3 cJ (xG (ab 15)) Bh)))))))))))) := rfl
  rw [eB]
  subst hh
  simp [jb, dN, ez, xE, bnd, ah, aa, ag, ab, fC, f2, dh, fG, rq, hmul, e0, e1, e2, e3, e4, e5, e6, e7, e8, e9, e10, i1, i2, i6, i9, eqX, eqS, E15, enc, n]
  simp [cv]
 rw [hrun]
 cases hf : (js.filter (fun o => decide (key o = key n))) with
 | nil =>
  rw [hf] at hc
  refine ⟨E15, js ++ [n], now + d0, ?_, rfl, J.add a0 b0 gn rfl hf⟩
  unfold wv
  rw [hc]
  show (if (js.map enc).length < 100000 then _ else _) = _
  rw [if_pos (by have := J.l; simp; omega)]
  show some (Fo.nx _ (js.map enc ++ [enc n])) = _
  simp
 | cons c r =>
  rw [hf] at hc
  refine ⟨E15, js, now + d0, ?_, rfl, J.keep a0 b0⟩
  unfold wv
  rw [hc]
  rfl
theorem nF (ns : List Int) (hl : ns.length ≤ 63) (z m : Int) : ∀ (ks : List Int) (ρ : Ev) (now : Int) (B : Nat) (js : List Note), B + ks.length ≤ 10 → fgt [5, 6, 7, 8, 9, 10, 11, 12, 13, 14, 15] ρ = jb ns z m now → JI B js now →
 ∃ js' now', ki 5 [5, 6, 7, 8, 9, 10, 11, 12, 13, 14, 15] aB (ks.map Dv.int) ρ (js.map enc) = some (.nx (jb ns z m now') (js'.map enc)) ∧ JI (B + ks.length) js' now'
 | [], ρ, now, B, js, _, hρ, J => ⟨js, now, by show some (Fo.nx _ _) = _; rw [hρ], J⟩
 | k :: ks, ρ, now, B, js, hb, hρ, J => by
  simp only [List.length_cons] at hb
  obtain ⟨ρ', js', now', e, hρ', J'⟩ := rA ns hl z m now k J (by omega)
  obtain ⟨js2, now2, e2, J2⟩ := nF ns hl z m ks ρ' now' (B + 1) js' (by omega) hρ' J'
  refine ⟨js2, now2, ?_, by rw [List.length_cons, show B + (ks.length + 1) = B + 1 + ks.length by omega]; exact J2⟩
  show (match aB ((fgt _ ρ).set 5 (some (.int k))) (js.map enc) with
   | some (.nx ρ' xs') => ki 5 _ aB (ks.map Dv.int) ρ' xs'
   | o => o) = _
  rw [hρ, e]
  exact e2
theorem AF (ns : List Int) (hl : ns.length ≤ 63) (z : Int) (m : Nat) (hm : m ≤ 8) : ∃ js now, cz [.scr ns, .int z, .int m] = some (.ok (ej js)) ∧ Jar js ∧ js.length ≤ m ∧ JI m js now := by
 obtain ⟨d, a0, b0, e0⟩ := aX ns hl z (m + 1) (by omega)
 obtain ⟨c, rfl⟩ : ∃ c : Nat, d = (c : Int) := ⟨d.toNat, by omega⟩
 have hr : j4 [.int (c : Int)] = some (.ok (((List.range c).map fun i : Nat => (i : Int)).map Dv.int)) := by
  rw [vd (by omega), mv]
  simp
 obtain ⟨js, now, e, J⟩ := nF ns hl z m ((List.range c).map fun i : Nat => (i : Int)) (jb ns z m 0) 0 0 [] (by simp; omega) rfl ⟨by simp, List.Pairwise.nil, by simp, by simp, by omega, by omega, by simp⟩
 have hlen : ((List.range c).map fun i : Nat => (i : Int)).length = c := by simp
 rw [hlen] at J
 have J5 := J.l
 refine ⟨js, now, ?_, J.jar (by omega), by omega, ⟨J.g, J.s, J.k, by omega, J.n0, by have := J.n1; omega, J.m⟩⟩
 refine dB (d := ej js) ?_
 show xH 3 ag _ [some (.scr ns), some (.int z), some (.int m), none, none, none, none, none, none, none, none, none, none, none, none, none] = _
 have hsrc : (fun ρ => bnd ((aa (ah ac 3 (aa (ab 0) (aa (ab 1) (aa (f2 cv (ab 2) (fC (.int 1))) ag)))) ag) ρ) j4) (jb ns z m 0) = some (.ok (((List.range c).map fun i : Nat => (i : Int)).map Dv.int)) := by
  have h : (aa (ah ac 3 (aa (ab 0) (aa (ab 1) (aa (f2 cv (ab 2) (fC (.int 1))) ag)))) ag) (jb ns z m 0) = some (.ok [.int (c : Int)]) := by
   simp [bnd, aa, ag, ah, fC, ab, f2, jb, rq, e0]
  exact (ve (k := j4) h).trans hr
 have hfor : wz 5 [5, 6, 7, 8, 9, 10, 11, 12, 13, 14, 15] (fun ρ => bnd ((aa (ah ac 3 (aa (ab 0) (aa (ab 1) (aa (f2 cv (ab 2) (fC (.int 1))) ag)))) ag) ρ) j4) aB (jb ns z m 0) [] = some (.nx (jb ns z m now) (js.map enc)) := by
  unfold wz
  rw [hsrc]
  show (if imms (((List.range c).map fun i : Nat => (i : Int)).map Dv.int) = true then _ else none) = _
  rw [if_pos (ls _)]
  exact e
 have hle : js.length ≤ 100000 := by omega
 have hret : xF 3 (fB1 fI (aa (ab 3) ag)) (jb ns z m now) (js.map enc) = some (.rt (ej js)) := by
  unfold xF
  rw [bt (ae (x := .lst (js.map enc)) rfl av)]
  rfl
 have hbody : (dN (ez 4 (fC (.int 0))) (dN (wz 5 [5, 6, 7, 8, 9, 10, 11, 12, 13, 14, 15] (fun ρ => bnd ((aa (ah ac 3 (aa (ab 0) (aa (ab 1) (aa (f2 cv (ab 2) (fC (.int 1))) ag)))) ag) ρ) j4) aB) (xF 3 (fB1 fI (aa (ab 3) ag))))) [some (.scr ns), some (.int z), some (.int m), none, none, none, none, none, none, none, none, none, none, none, none, none] [] = some (.rt (ej js)) := by
  rw [rm (show ez 4 (fC (.int 0)) [some (.scr ns), some (.int z), some (.int m), none, none, none, none, none, none, none, none, none, none, none, none, none] [] = some (.nx (jb ns z m 0) []) from rfl)]
  rw [rm hfor]
  exact hret
 unfold xH
 show (if ([] : List Dv).length ≤ 100000 then _ else none) = _
 rw [if_pos (by simp)]
 exact (congrArg (fun o => match o with | some (Fo.nx ρ' ds') => some (Fl.nx (List.set ρ' 3 (some (Dv.lst ds')))) | some (Fo.rt d) => some (Fl.rt d) | none => none) hbody).trans rfl
theorem AG (n : Note) : lZ [enc n] = some (.ok (ek n)) := by simp [lZ, aZ, ug, aF, cT, bnd, aa, ag, ab, fC, f2, ixD, atD, dh, enc, ek]
theorem lu : ∀ js : List Note, keysOf (js.map ek) = some (js.map key)
 | [] => rfl
 | n :: js => by
  show (match bM [.str n.nm, .str n.house, .str n.path], keysOf (js.map ek) with | some k, some ks => some (k :: ks) | _, _ => none) = _
  rw [lu js]
  rfl
theorem rB {js : List Note} : ((ST.ddk (js.map key)).length == js.length) = decide ((js.map key).Nodup) := by
 have := ST.ddk_eq (js.map key)
 rw [List.length_map] at this
 rw [Bool.eq_iff_iff]
 simp [this]
theorem xm {js : List Note} (hl : js.length ≤ 18) : aI [ej js] = bo (decide ((js.map key).Nodup)) := by
 have e1 : aA 1 [] (bG (ab 0)) (gN 0) none (ah lZ 1 (aa (ab 0) ag)) [some (ej js), none] = some (.ok (.lst (js.map ek))) :=
  rj enc ek (dI rfl) (by omega) fun n hn => gs lZ rfl (AG n)
 have e2 : gB [.lst (js.map ek)] = some (.ok (.int (ST.ddk (js.map key)).length)) := by
  show (match keysOf (js.map ek) with | some ks => if ks.length ≤ 20 then (some (.ok (.int (ST.ddk ks).length)) : Option (Rs Dv)) else none | none => none) = _
  rw [lu]
  dsimp only
  rw [if_pos (by simp; omega)]
 refine dB ?_
 show aH [some (ej js), none] = _
 unfold aH
 rw [aq (a5 (ρ' := [some (ej js), some (.lst (js.map ek))]) e1 rfl)]
 refine c4 ((bH ((bt (ae (x := .lst (js.map ek)) rfl av)).trans e2) (y := .int js.length) (by show some (Rs.ok (Dv.int ((js.map ek).length : Int))) = _; rw [List.length_map])).trans ?_)
 show some (Rs.ok (Dv.bl (((ST.ddk (js.map key)).length : Int) == (js.length : Int)))) = _
 rw [← rB]
 congr 3
 rw [Bool.eq_iff_iff]
 simp
 omega
theorem all_map {α : Type} (p : α → Bool) (l : List α) : lK [.lst (l.map fun a => Dv.bl (p a))] = bo (l.all p) := by
 unfold lK
 dsimp only
 rw [lj p l]
 dsimp only
 rw [List.all_map]
 rfl
theorem ul {α : Type} (l : List α) : lK [.lst (l.map fun _ => Dv.bl true)] = bo true := by
 rw [all_map (fun _ => true) l]
 simp
theorem AH {js : List Note} {i : Nat} (h : i < js.length) : ixD (ej js) (.int i) = some (.ok (enc js[i])) := by
 show (match atD (js.map enc) (i : Int) with | some d => _ | none => _) = _
 unfold atD
 rw [if_pos (by omega)]
 simp [h]
theorem AI (n : Note) : ixD (enc n) (.int 8) = some (.ok (.int n.md)) := rfl
theorem AJ (js : List Note) (hl : js.length ≤ 18) : (fun ρ => bnd ((aa (fC (.int 1)) (aa (fB1 du (aa (ab 0) ag)) ag)) ρ) sn) [some (ej js)] = some (.ok ((List.range (js.length - 1)).map fun i : Nat => Dv.int (1 + (i : Int)))) := by
 have h : (aa (fC (.int 1)) (aa (fB1 du (aa (ab 0) ag)) ag)) [some (ej js)] = some (.ok [.int 1, .int js.length]) := by
  simp [bnd, aa, ag, fB1, fC, ab, ej, du]
 refine (ve (k := sn) h).trans ?_
 rw [As (by omega), mv, show ((js.length : Int) - 1).toNat = js.length - 1 by omega]
def Dy : FnE := (f2 leX (f2 ixD (f2 ixD (ab 1) (f2 sN (ab 0) (fC (.int 1)))) (fC (.int 8))) (f2 ixD (f2 ixD (ab 1) (ab 0)) (fC (.int 8))))
def sv (js : List Note) (i : Nat) : Int := (js[i]?.map Note.md).getD 0
def riB (js : List Note) : Bool := (List.range (js.length - 1)).all fun i => decide (sv js i ≤ sv js (i + 1))
theorem jJ {js : List Note} {i : Nat} (h : i < js.length) : sv js i = js[i].md := by
 unfold sv
 rw [List.getElem?_eq_getElem h]
 rfl
theorem AK {js : List Note} {i : Nat} (hi' : i + 1 < js.length) : Dy [some (.int (1 + (i : Int))), some (ej js)] = some (.ok (.bl (decide (sv js i ≤ sv js (i + 1))))) := by
 have h1 : f2 ixD (ab 1) (f2 sN (ab 0) (fC (.int 1))) [some (.int (1 + (i : Int))), some (ej js)] = some (.ok (enc js[i])) := by
  have q := AH (js := js) (i := i) (by omega)
  rw [show (i : Int) = 1 + (i : Int) - 1 by omega] at q
  exact q
 have h2 : f2 ixD (ab 1) (ab 0) [some (.int (1 + (i : Int))), some (ej js)] = some (.ok (enc js[i + 1])) := by
  have q := AH (js := js) (i := i + 1) hi'
  rw [show ((i + 1 : Nat) : Int) = 1 + (i : Int) by omega] at q
  exact q
 rw [jJ (show i < js.length by omega), jJ hi']
 exact (bH ((bH h1 rfl).trans (AI _)) ((bH h2 rfl).trans (AI _))).trans rfl
theorem AM {js : List Note} (hl : js.length ≤ 18) : bJ [ej js] = bo (riB js) := by
 have e := eN (cs := [("notes", 0)]) (src := (fun ρ => bnd ((aa (fC (.int 1)) (aa (fB1 du (aa (ab 0) ag)) ag)) ρ) sn)) (elt := Dy) (ρ := [some (ej js)]) (fun i : Nat => Dv.int (1 + (i : Int))) (fun i : Nat => Dv.bl (decide (sv js i ≤ sv js (i + 1)))) (AJ js hl) (by rw [List.length_range]; omega) fun i hi => AK (by have := List.mem_range.mp hi; omega)
 exact dB (d := .bl (riB js)) (c4 ((bt (ae e av)).trans (all_map (fun i : Nat => decide (sv js i ≤ sv js (i + 1))) _)))
def isJ (js : List Note) : Bool := riB js && decide ((js.map key).Nodup)
theorem CV {js : List Note} (hg : ∀ n ∈ js, Good n) (hl : js.length ≤ 18) : cP [ej js] = bo (isJ js) := by
 have ta : aT [] (bG (ab 0)) none (ah bK 1 (aa (ab 0) ag)) [some (ej js)] = some (.ok (.lst (js.map fun _ => Dv.bl true))) :=
  eN enc (fun _ => Dv.bl true) (dI rfl) (by omega) fun n hn => gs bK rfl (AA (hg n hn))
 have tb : (bOr (dA (fB (f1 (fY jd) (ab 0)))) (fB (f2 gtD (fB1 du (aa (ab 0) ag)) (fC (.int 20))))) [some (ej js)] = some (.ok false) := by
  have e3 : ¬ (20 < (js.length : Int)) := by omega
  simp [bOr, dA, fB, f1, f2, fY, jd, ab, bnd, toB, fB1, aa, ag, fC, ej, du, BY, e3]
 have tc : fB1 lK (aa (aT [] (bG (ab 0)) none (ah bK 1 (aa (ab 0) ag))) ag) [some (ej js)] = bo true := (bt (ae ta av)).trans (ul js)
 refine dB ?_
 show eI [some (ej js)] = _
 unfold eI
 rw [aq (bd tb)]
 rw [aq (bd (pR (k := true) (bT tc)))]
 refine c4 ?_
 have hm := gs bJ (f := ab 0) (ρ := [some (ej js)]) rfl (AM hl)
 unfold isJ
 cases hr : riB js with
 | false => rw [hr] at hm; rw [zb hm]; rfl
 | true => rw [hr] at hm; rw [zc hm]; exact gs aI rfl (xm hl)
theorem AN {js : List Note} (J : Jar js) : isJ js = true := by
 unfold isJ
 rw [Bool.and_eq_true, decide_eq_true_eq]
 refine ⟨List.all_eq_true.mpr fun i hi => ?_, J.k⟩
 have hi' : i + 1 < js.length := by have := List.mem_range.mp hi; omega
 rw [decide_eq_true_eq, jJ (show i < js.length by omega), jJ hi']
 exact J.s i hi'
theorem AO {js : List Note} (J : Jar js) : cP [ej js] = bo true := by rw [CV J.g J.l, AN J]
def rules : List Dv := [.str "!w.ck", .str "*.ck", .str "*.uk", .str "a.b", .str "b", .str "c.uk", .str "q", .str "uk"]
def dJ : List Dv → List (List Dv)
 | [] => [[]]
 | x :: r => (dJ r).map (x :: ·) ++ dJ r
def xn : FnB := fB (f2 eqX (ah ac 3 (aa (ab 2) (aa (f2 ec (ab 3) (ab 0)) (aa (fC (.int 2)) ag)))) (fC (.int 0)))
theorem vf (ns : List Int) (hl : ns.length ≤ 63) (z : Int) : ∀ (l : List Dv) (k : Nat), ∃ t ∈ dJ l, eQ (gP 0 1) (some xn) (ab 1) [none, none, some (.scr ns), some (.int z)] (eW k l) = some t
 | [], k => ⟨[], by simp [dJ], rfl⟩
 | x :: r, k => by
  obtain ⟨t, ht, e⟩ := vf ns hl z r (k + 1)
  obtain ⟨d, h0, h1, hd⟩ := aX ns hl (z + k) 2 (by omega)
  have ht' : xn [some (.int k), some x, some (.scr ns), some (.int z)] = bnd (bnd (okO (ac [.scr ns, .int (z + k), .int 2])) fun x => eqX x (.int 0)) toB := by kernel_rfl
  have hu : eQ (gP 0 1) (some xn) (ab 1) [none, none, some (.scr ns), some (.int z)] (eW k (x :: r)) = (match xn [some (.int k), some x, some (.scr ns), some (.int z)] with
   | some (.ok true) => (match eQ (gP 0 1) (some xn) (ab 1) [none, none, some (.scr ns), some (.int z)] (eW (k + 1) r) with | some ys => some (x :: ys) | none => none)
   | some (.ok false) => eQ (gP 0 1) (some xn) (ab 1) [none, none, some (.scr ns), some (.int z)] (eW (k + 1) r)
   | _ => none) := by kernel_rfl
  rw [hu, ht', hd, e]
  have hc : d = 0 ∨ d = 1 := by omega
  rcases hc with rfl | rfl
  · exact ⟨x :: t, by simp [dJ, ht], by kernel_rfl⟩
  · exact ⟨t, by simp [dJ, ht], by kernel_rfl⟩
theorem jK : ∀ {l t : List Dv}, t ∈ dJ l → t.length ≤ l.length
 | [], t, h => by simp [dJ] at h; simp [h]
 | x :: r, t, h => by
  simp only [dJ, List.mem_append, List.mem_map] at h
  rcases h with ⟨u, hu, rfl⟩ | h
  · have := jK hu; simp; omega
  · have := jK h; simp; omega
theorem um (ns : List Int) (hl : ns.length ≤ 63) : ∃ t ∈ dJ rules, bh [.scr ns, .int 0] = some (.ok (.tup t)) := by
 obtain ⟨t, ht, e⟩ := vf ns hl 0 rules 0
 refine ⟨t, ht, ?_⟩
 have hle : t.length ≤ 100000 := by have := jK ht; have : rules.length = 8 := rfl; omega
 have hu : bh [.scr ns, .int 0] = (match cT (bnd (bnd (match eQ (gP 0 1) (some xn) (ab 1) [none, none, some (.scr ns), some (.int 0)] (eW 0 rules) with
  | some ys => if ys.length ≤ 100000 ∧ (eW 0 rules).length ≤ 100000 then (some (.ok (.lst ys)) : Option (Rs Dv)) else none
  | none => none) fun x => bnd (some (.ok [])) fun ys => some (.ok (x :: ys))) fI) fun d => some (.rt d) with
  | some (.nx _) => some (.ok .non)
  | some (.rt d) => some (.ok d)
  | _ => none) := by kernel_rfl
 rw [hu, e]
 dsimp only
 rw [if_pos ⟨hle, by decide⟩]
 rfl
end G
namespace RM
open PySem PySem.Spec FD
structure Tot {α : Type} (lt : α → α → Bool) : Prop where
 ir : ∀ a, lt a a = false
 tr : ∀ a b c, lt a b = true → lt b c = true → lt a c = true
section
variable {α : Type} {lt : α → α → Bool}
def above (lt : α → α → Bool) (L : List α) (n : α) : Nat := L.countP (fun m => lt n m)
def keep (lt : α → α → Bool) (L : List α) (r : Nat) : List α := L.filter fun n => decide (above lt L n < r)
theorem iP {L M : List α} (h : L.Perm M) (n : α) : above lt L n = above lt M n := h.countP_eq _
theorem fE (T : Tot lt) : ∀ {S : List α}, S.Pairwise (fun a b => lt b a = true) → S.map (above lt S) = List.range S.length
 | [], _ => rfl
 | x :: S, h => by
  rw [List.pairwise_cons] at h
  have ih := fE T h.2
  have e0 : above lt (x :: S) x = 0 := by
   unfold above
   rw [List.countP_eq_zero]
   intro m hm
   rcases List.mem_cons.mp hm with rfl | hm
   · simp [T.ir]
   · intro z
     have := T.tr _ _ _ z (h.1 m hm)
     rw [T.ir] at this
     cases this
  have e1 : ∀ y ∈ S, above lt (x :: S) y = above lt S y + 1 := fun y hy => by
   unfold above
   rw [List.countP_cons, h.1 y hy]
   simp
  rw [List.map_cons, e0, List.length_cons, List.range_succ_eq_map, ← ih, List.map_map]
  congr 1
  exact List.map_congr_left fun y hy => by simp [e1 y hy]
theorem lv (r : Nat) : ∀ n, (List.range n).countP (fun i => decide (i < r)) = min r n
 | 0 => by simp
 | n + 1 => by
  rw [List.range_succ, List.countP_append, lv r n]
  by_cases h : n < r
  · simp [h]; omega
  · simp [h]; omega
theorem nG (T : Tot lt) {L S : List α} (hp : S.Perm L) (hs : S.Pairwise (fun a b => lt b a = true)) (r : Nat) : (keep lt L r).length = min r L.length := by
 have e1 : (keep lt L r).length = L.countP (fun n => decide (above lt L n < r)) := by unfold keep; rw [List.countP_eq_length_filter]
 have e2 : L.countP (fun n => decide (above lt L n < r)) = S.countP (fun n => decide (above lt S n < r)) := by
  rw [hp.countP_eq]
  congr 1
  funext n
  rw [iP hp]
 have e3 : S.countP (fun n => decide (above lt S n < r)) = (S.map (above lt S)).countP (fun i => decide (i < r)) := by
  rw [List.countP_map]; rfl
 rw [e1, e2, e3, fE T hs, lv, hp.length_eq]
theorem rD (T : Tot lt) {L S : List α} (hp : S.Perm L) (hs : S.Pairwise (fun a b => lt a b = true)) (r : Nat) (n : α) : n ∈ S.take (L.length - r) ↔ n ∈ L ∧ ¬ (above lt L n < r) := by
 have hr : S.reverse.Pairwise (fun a b => lt b a = true) := List.pairwise_reverse.mpr hs
 have hpr : S.reverse.Perm L := (List.reverse_perm S).trans hp
 have key := fE T hr
 have hlen : S.length = L.length := hp.length_eq
 have at' : ∀ (i : Nat) (hi : i < S.length), above lt L S[i] = S.length - 1 - i := fun i hi => by
  have hk : S.length - 1 - i < S.reverse.length := by simp; omega
  have e := congrArg (fun l => l[S.length - 1 - i]?) key
  simp only [List.getElem?_map] at e
  rw [List.getElem?_eq_getElem hk, List.getElem?_range (by simpa using hk), Option.map_some, List.getElem_reverse] at e
  have e' := Option.some.inj e
  rw [iP hpr] at e'
  rw [← e']
  congr 2
  omega
 constructor
 · intro h
   obtain ⟨i, hi, e⟩ := List.mem_iff_getElem.mp h
   have hi2 : i < L.length - r ∧ i < S.length := by simp at hi; omega
   rw [List.getElem_take] at e
   refine ⟨hp.mem_iff.mp (e ▸ List.getElem_mem hi2.2), ?_⟩
   rw [← e, at' i hi2.2]
   omega
 · rintro ⟨hm, hn⟩
   obtain ⟨i, hi, e⟩ := List.mem_iff_getElem.mp (hp.mem_iff.mpr hm)
   rw [← e, at' i hi] at hn
   rw [List.mem_iff_getElem]
   exact ⟨i, by simp; omega, by rw [List.getElem_take]; exact e⟩
end
end RM
namespace RM
section
variable {α γ : Type} [DecidableEq γ] {lt : α → α → Bool} (gr : α → γ)
theorem uo {L M : List α} (h : L.Sublist M) (n : α) : above lt L n ≤ above lt M n := h.countP_le
def mem (l : List α) (g : γ) : List α := l.filter fun i => decide (gr i = g)
def aK (lt : α → α → Bool) (l : List α) (e : Nat) : List α := l.filter fun i => decide (above lt (mem gr l (gr i)) i < e)
def dL (lt : α → α → Bool) (l : List α) (e m : Nat) : List α := keep lt (aK gr lt l e) m
variable {gr}
theorem xo {l m : List α} (h : l.Sublist m) (g : γ) : (mem gr l g).Sublist (mem gr m g) := h.filter _
theorem fit_sub {l : List α} {e m : Nat} : (dL gr lt l e m).Sublist l := List.filter_sublist.trans List.filter_sublist
theorem inner_sub {l : List α} {e : Nat} : (aK gr lt l e).Sublist l := List.filter_sublist
theorem nH (T : Tot lt) {l : List α} {i : α} (h : i ∈ l) : above lt l i < l.length := by
 unfold above
 refine Nat.lt_of_le_of_ne (List.countP_le_length) fun z => ?_
 have := List.countP_eq_length.mp z i h
 rw [T.ir] at this
 cases this
theorem nI (T : Tot lt) {l : List α} {m : Nat} (h : l.length ≤ m) : keep lt l m = l := by
 unfold keep
 rw [List.filter_eq_self]
 intro i hi
 have := nH T hi
 simp
 omega
theorem lx (T : Tot lt) {l : List α} {e : Nat} (h : l.length ≤ e) : aK gr lt l e = l := by
 unfold aK
 rw [List.filter_eq_self]
 intro i hi
 have h1 := nH T (l := mem gr l (gr i)) (i := i) (by unfold mem; rw [List.mem_filter]; exact ⟨hi, by simp⟩)
 have h2 : (mem gr l (gr i)).length ≤ l.length := List.length_filter_le _ _
 simp
 omega
theorem oH {l k : List α} {e : Nat} (h : k.Sublist (aK gr lt l e)) : aK gr lt k e = k := by
 unfold aK
 rw [List.filter_eq_self]
 intro i hi
 have h1 := h.subset hi
 unfold aK at h1
 rw [List.mem_filter] at h1
 have h2 : above lt (mem gr k (gr i)) i ≤ above lt (mem gr l (gr i)) i := uo (xo (h.trans inner_sub) _) i
 have h3 := h1.2
 simp at h3 ⊢
 omega
theorem rE (T : Tot lt) {l : List α} {e m : Nat} (hl : (dL gr lt l e m).length ≤ m) : dL gr lt (dL gr lt l e m) e m = dL gr lt l e m := by
 have e1 : aK gr lt (dL gr lt l e m) e = dL gr lt l e m := oH (l := l) List.filter_sublist
 show keep lt (aK gr lt (dL gr lt l e m) e) m = _
 rw [e1]
 exact nI T hl
theorem jL (T : Tot lt) {l : List α} {e b : Nat} (hb : l.length ≤ b) : dL gr lt l e b = aK gr lt l e := nI T (Nat.le_trans inner_sub.length_le hb)
theorem xp (T : Tot lt) {l : List α} {b c : Nat} (hb : l.length ≤ b) (hc : l.length ≤ c) : dL gr lt l b c = l := by
 rw [jL T hc, lx T hb]
theorem uq {l : List α} {e m : Nat} : ∀ i ∈ dL gr lt l e m, i ∈ dL gr lt l e (m + 1) := fun i h => by
 unfold dL keep at *
 rw [List.mem_filter] at *
 have := h.2
 simp at this
 exact ⟨h.1, by simp; omega⟩
theorem ly (T : Tot lt) {l : List α} {e : Nat} (srt : ∀ k : List α, k.Sublist l → ∃ S : List α, S.Perm k ∧ S.Pairwise (fun a b => lt b a = true)) (g : γ) : (mem gr (aK gr lt l e) g).length = min e (mem gr l g).length := by
 obtain ⟨S, hp, hs⟩ := srt (mem gr l g) List.filter_sublist
 rw [← nG T hp hs e]
 congr 1
 unfold keep mem aK
 rw [List.filter_filter, List.filter_filter]
 apply List.filter_congr
 intro i _
 by_cases hg : gr i = g
 · subst hg
   simp [mem]
   rfl
 · simp [hg]
end
end RM
namespace G
open PySem PySem.Spec PyProof.Rows L2 FD TS
def nJ (n : Note) : List Dv := [.bl n.S, .int n.us]
def ltN (a b : Note) : Bool := ltL (nJ a) (nJ b)
def rF (xs : List Note) : List Note := isortB (fun a b => !ltN b a) xs
theorem xq (n : Note) : dG [enc n] = some (.ok (.tup (nJ n))) := by simp [dG, aZ, nu, aF, cT, bnd, aa, ag, ab, fC, f2, ixD, atD, dh, enc, nJ]
theorem rG : ∀ xs : List Note, dQ dG (xs.map enc) = some (xs.map nJ)
 | [] => rfl
 | n :: xs => by
  show (match dG [enc n], dQ dG (xs.map enc) with | some (.ok (.tup es)), some rs => some (es :: rs) | _, _ => none) = _
  rw [xq, rG xs]
  rfl
theorem rH {xs : List Note} (h : xs.length < 64) : ca (xs.map nJ) = true := by
 unfold ca
 rw [Bool.and_eq_true, decide_eq_true_eq, List.all_eq_true]
 refine ⟨by simpa using h, fun r hr => ?_⟩
 obtain ⟨n, hn, rfl⟩ := List.mem_map.mp hr
 cases xs with
 | nil => simp at hn
 | cons x xs => rfl
theorem xr (n : Note) : imm (enc n) = true := by
 unfold enc
 cases h : n.ends <;> simp [imm, imms, eO]
theorem nK : ∀ xs : List Note, imms (xs.map enc) = true
 | [] => by simp [imms]
 | n :: xs => by simp [imms, xr n, nK xs]
theorem nM : ∀ xs : List Note, imms ((xs.map nJ).map Dv.tup) = true
 | [] => by simp [imms]
 | n :: xs => by
  have := nM xs
  simp only [List.map_cons, imms, Bool.and_eq_true]
  exact ⟨by simp [imm, imms, nJ], this⟩
theorem oI (xs : List Note) : gI (xs.map nJ) (xs.map enc) = (rF xs).map enc := by
 unfold gI rF
 have e : (xs.map nJ).zip (xs.map enc) = xs.map fun n => (nJ n, enc n) := by
  rw [List.zip_map']
 rw [e, ← TS.sort_map (le := fun a b => !ltN b a) (fun n => (nJ n, enc n)) xs fun _ _ _ _ => rfl, List.map_map]
 rfl
theorem nN {xs : List Note} (h : xs.length < 64) : iD dG (xs.map enc) = some (.ok (.lst ((rF xs).map enc))) := by
 unfold iD
 rw [rG]
 dsimp only
 rw [if_pos ⟨rH h, nK xs, nM xs⟩, oI]
theorem ur (xs : List Note) : (rF xs).length = xs.length := (isortB_perm _ xs).length_eq
theorem AQ (l : List Dv) (n : Nat) (h : n ≤ l.length) : su l none (some (n : Int)) = l.take n := by
 unfold su HT.sIx
 simp only [List.drop_zero]
 rw [if_neg (by omega)]
 congr 1
 omega
theorem xt {fa : FnE} {fl fh : FnO} {ρ : Ev} {x : Dv} {lo hi : Option Int} (h1 : fa ρ = some (.ok x)) (h2 : fl ρ = some (.ok lo)) (h3 : fh ρ = some (.ok hi)) : tt fa fl fh ρ = Cd x lo hi := by unfold tt; rw [h1, h2, h3]; rfl
theorem ut {f : FnE} {ρ : Ev} {i : Int} (h : f ρ = some (.ok (.int i))) : fU f ρ = some (.ok (some i)) := by unfold fU; rw [h]; rfl
theorem rJ {xs : List Note} {d : Dv} (hd : d = .lst (xs.map enc) ∨ d = ej xs) (h : xs.length < 64) (r : Nat) : bB [d, .int r] = some (.ok (.lst (((rF xs).take (xs.length - r)).map enc))) := by
 refine dB ?_
 show cD [some d, some (.int r), none] = _
 unfold cD
 have e1 : (fB1 (oA dG) (aa (ab 0) ag)) [some d, some (.int r), none] = some (.ok (.lst ((rF xs).map enc))) := by
  refine (bt (ae (x := d) rfl av)).trans ?_
  rcases hd with rfl | rfl
  · exact nN h
  · exact nN h
 rw [aq (a5 e1 rfl)]
 simp only [List.set_cons_succ, List.set_cons_zero]
 refine c4 ?_
 have e2 : du [d] = some (.ok (.int xs.length)) := by
  rcases hd with rfl | rfl
  · show some (Rs.ok (Dv.int ((xs.map enc).length : Int))) = _
    rw [List.length_map]
  · show some (Rs.ok (Dv.int ((xs.map enc).length : Int))) = _
    rw [List.length_map]
 have e3 : (fB1 Bi (aa (f2 sN (fB1 du (aa (ab 0) ag)) (ab 1)) (aa (fC (.int 0)) ag))) [some d, some (.int r), some (.lst ((rF xs).map enc))] = some (.ok (.int ((xs.length - r : Nat) : Int))) := by
  refine (bt (ae (x := .int ((xs.length : Int) - r)) ((bH ((bt (ae (x := d) rfl av)).trans e2) (y := .int r) rfl).trans rfl) (ae (x := .int 0) rfl av))).trans ?_
  show some (Rs.ok (Dv.int (if (0 : Int) > (xs.length : Int) - r then 0 else (xs.length : Int) - r))) = _
  congr 3
  split <;> omega
 refine (xt rfl rfl (ut e3)).trans ?_
 show some (Rs.ok (Dv.lst (su ((rF xs).map enc) none (some ((xs.length - r : Nat) : Int))))) = _
 rw [AQ _ _ (by rw [List.length_map, ur]; omega), List.map_take]
def out (xs ys : List Note) : List Note := xs.filter fun n => !ys.any fun m => decide (m = n)
theorem iQ {xs ys : List Note} (hx : ∀ n ∈ xs, Good n) (hy : ∀ n ∈ ys, Good n) (hl : xs.length ≤ 1000) : bZ [ej xs, .lst (ys.map enc)] = some (.ok (ej (out xs ys))) := by
 refine dB ?_
 show db [some (ej xs), some (.lst (ys.map enc))] = _
 unfold db
 refine c4 ?_
 have e : (aT [("dropped", 1)] (bG (ab 0)) (some (fB (f2 cw (ab 0) (ab 1)))) (ab 0)) [some (ej xs), some (.lst (ys.map enc))] = some (.ok (.lst ((out xs ys).map enc))) :=
  df (l := xs) enc (fun n => !ys.any fun m => decide (m = n)) enc (dI rfl) (by omega) fun n hn =>
   ⟨bT ((bH (x := enc n) (y := .lst (ys.map enc)) rfl rfl).trans (ui ((dH (hx n hn)).le (by omega)) rfl (fun a ha => (dH (hy a ha)).le (by omega)) fun a _ => jI a n).2.1), rfl⟩
 exact (bt (ae e av)).trans rfl
end G
namespace G
open PySem PySem.Spec PyProof.Rows L2 FD TS RM
theorem AR (a : Note) : ltN a a = false := qG _
theorem AS {a b c : Note} (h : ltN a b = true) (h' : ltN b c = true) : ltN a c = true := qH h h'
theorem rK {a b c : Note} (h : ltN a c = true) : ltN a b = true ∨ ltN b c = true := qI rfl rfl rfl h
def lxN (js : List Note) (a b : Note) : Bool := ltN a b || (!ltN b a && decide (js.idxOf a < js.idxOf b))
theorem lxN_iff {js : List Note} {a b : Note} : lxN js a b = true ↔ ltN a b = true ∨ (ltN b a = false ∧ js.idxOf a < js.idxOf b) := by
 unfold lxN
 simp
theorem dg (js : List Note) : Tot (lxN js) where
 ir := fun a => by
  cases h : lxN js a a with
  | false => rfl
  | true =>
   rcases lxN_iff.mp h with q | q
   · rw [AR] at q; cases q
   · omega
 tr := fun a b c h1 h2 => by
  rw [lxN_iff] at *
  rcases h1 with h1 | ⟨h1, i1⟩
  · rcases h2 with h2 | ⟨h2, i2⟩
    · exact .inl (AS h1 h2)
    · rcases rK (b := c) h1 with q | q
      · exact .inl q
      · rw [q] at h2; cases h2
  · rcases h2 with h2 | ⟨h2, i2⟩
    · rcases rK (b := a) h2 with q | q
      · rw [q] at h1; cases h1
      · exact .inl q
    · refine .inr ⟨?_, by omega⟩
      cases q : ltN c a with
      | false => rfl
      | true =>
       rcases rK (b := b) q with z | z
       · rw [z] at h2; cases h2
       · rw [z] at h1; cases h1
def Inc (js xs : List Note) : Prop := xs.Pairwise (fun a b => js.idxOf a < js.idxOf b)
theorem vg {js : List Note} (nd : js.Nodup) {i : Nat} (h : i < js.length) : js.idxOf js[i] = i := nd.idxOf_getElem i h
theorem jM {js : List Note} (nd : js.Nodup) : Inc js js := by
 unfold Inc
 rw [List.pairwise_iff_getElem]
 intro i j hi hj hij
 rw [vg nd hi, vg nd hj]
 exact hij
theorem vh {js : List Note} (x : Note) : ∀ l : List Note, (∀ y ∈ l, js.idxOf x < js.idxOf y) → l.Pairwise (fun a b => lxN js a b = true) → (jR (fun a b => !ltN b a) x l).Pairwise (fun a b => lxN js a b = true)
 | [], _, _ => by simp [jR]
 | y :: l, hx, h => by
  unfold jR
  rw [List.pairwise_cons] at h
  split
  · rename_i hc
    have hxy : lxN js x y = true := lxN_iff.mpr (.inr ⟨by simpa using hc, hx y List.mem_cons_self⟩)
    rw [List.pairwise_cons, List.pairwise_cons]
    refine ⟨fun z hz => ?_, h⟩
    rcases List.mem_cons.mp hz with rfl | hz
    · exact hxy
    · exact (dg js).tr _ _ _ hxy (h.1 z hz)
  · rename_i hc
    rw [List.pairwise_cons]
    refine ⟨fun z hz => ?_, vh x l (fun z hz => hx z (List.mem_cons_of_mem _ hz)) h.2⟩
    rcases List.mem_cons.mp ((c6 _ x l).mem_iff.mp hz) with rfl | hz
    · exact lxN_iff.mpr (.inl (by simpa using hc))
    · exact h.1 z hz
theorem rL {js : List Note} : ∀ {xs : List Note}, Inc js xs → (rF xs).Pairwise (fun a b => lxN js a b = true)
 | [], _ => .nil
 | x :: xs, h => by
  unfold Inc at h
  rw [List.pairwise_cons] at h
  exact vh x _ (fun y hy => h.1 y ((isortB_perm _ xs).mem_iff.mp hy)) (rL h.2)
def tmN (xs : List Note) (r : Nat) : List Note := (rF xs).take (xs.length - r)
theorem jN {js xs : List Note} (h : Inc js xs) (r : Nat) (n : Note) : n ∈ tmN xs r ↔ n ∈ xs ∧ ¬ (above (lxN js) xs n < r) :=
 rD (dg js) (isortB_perm _ xs) (rL h) r n
theorem uu {js xs : List Note} (h : Inc js xs) (r : Nat) : out xs (tmN xs r) = keep (lxN js) xs r := by
 unfold out keep
 apply List.filter_congr
 intro n hn
 rw [Bool.eq_iff_iff]
 simp only [Bool.not_eq_true', List.any_eq_false, decide_eq_true_eq]
 constructor
 · intro z
   cases hc : decide (above (lxN js) xs n < r) with
   | true => simpa using hc
   | false => exact absurd rfl (z n ((jN h r n).mpr ⟨hn, by simpa using hc⟩))
 · intro z m hm e
   subst e
   exact ((jN h r m).mp hm).2 z
def oP (t : List Dv) (h : Str) : Bool := match aP [.tup t, .str h] with
 | some (.ok .non) => true
 | some (.ok (.str z)) => PyData.canLay0 (.str z)
 | _ => false
def dw : Nat → List (List Dv)
 | 0 => dJ rules
 | k + 1 => (dw k).drop 32
theorem h8 {α : Type} {l : List α} {p : α → Bool} (n : Nat) (h1 : (l.take n).all p = true) (h2 : (l.drop n).all p = true) : l.all p = true := by
 rw [← List.take_append_drop n l, List.all_append, h1, h2]; rfl
theorem Eg : ((dw 0).take 32).all (fun t => En.all (oP t)) = true := by kernel_rfl
theorem Eh : ((dw 1).take 32).all (fun t => En.all (oP t)) = true := by kernel_rfl
theorem Ei : ((dw 2).take 32).all (fun t => En.all (oP t)) = true := by kernel_rfl
theorem Ej : ((dw 3).take 32).all (fun t => En.all (oP t)) = true := by kernel_rfl
theorem Ek : ((dw 4).take 32).all (fun t => En.all (oP t)) = true := by kernel_rfl
theorem El : ((dw 5).take 32).all (fun t => En.all (oP t)) = true := by kernel_rfl
theorem Em : ((dw 6).take 32).all (fun t => En.all (oP t)) = true := by kernel_rfl
theorem Eo : ((dw 7).take 32).all (fun t => En.all (oP t)) = true := by kernel_rfl
theorem AT : (dJ rules).all (fun t => En.all (oP t)) = true := h8 (l := dw 0) 32 Eg (h8 (l := dw 1) 32 Eh (h8 (l := dw 2) 32 Ei (h8 (l := dw 3) 32 Ej (h8 (l := dw 4) 32 Ek (h8 (l := dw 5) 32 El (h8 (l := dw 6) 32 Em Eo))))))
def ia (t : List Dv) (h : Str) : Str := match aP [.tup t, .str h] with
 | some (.ok (.str z)) => z
 | _ => h
theorem uv {t : List Dv} (ht : t ∈ dJ rules) {n : Note} (g : Good n) : ax [.tup t, enc n] = some (.ok (.str (ia t n.house))) ∧ PyData.canLay0 (.str (ia t n.house)) = true := by
 have hh := g.house
 have q := ci (p := oP t) (ci (p := fun t => En.all (oP t)) AT ht) hh
 unfold oP at q
 unfold ia
 split at q
 · rename_i e
   rw [e]
   refine ⟨by simp [ax, aZ, cC, aJ, sq, bw, aF, gp, bF, cT, bnd, bOr, A0, dA, fB, toB, ah, aa, ag, ab, fC, f1, f2, ixD, atD, vOr, iZ, xD, fIf, dh, fG, fB1, fM, ig, isN, fY, cY, jd, j8, kj, enc, e], ?_⟩
   exact jH (by unfold signs0; simp [hh])
 · rename_i z e
   rw [e]
   exact ⟨by simp [ax, aZ, cC, aJ, sq, bw, aF, gp, bF, cT, bnd, bOr, A0, dA, fB, toB, ah, aa, ag, ab, fC, f1, f2, ixD, atD, vOr, iZ, xD, fIf, dh, fG, fB1, fM, ig, isN, fY, cY, jd, j8, kj, enc, e], q⟩
 · cases q
section
variable {t : List Dv} {js : List Note}
def gnm (t : List Dv) (n : Note) : Str := ia t n.house
end
theorem nO {f : FnE} {ρ : Ev} {ds : List Dv} (h : f ρ = some (.ok (.lst ds))) : bG f ρ = some (.ok ds) := by unfold bG; rw [h]; rfl
theorem rM (a b : Str) : eqX (.str a) (.str b) = some (.ok (.bl (decide (a = b)))) := by
 show some (Rs.ok (Dv.bl (seq a b))) = _
 congr 3
 rw [← mO]
 rw [Bool.eq_iff_iff]
 simp
theorem iR : ∀ ks : List Str, bM (ks.map Dv.str) = some ks
 | [] => rfl
 | x :: ks => by
  show (bM (ks.map Dv.str)).map (x :: ·) = _
  rw [iR ks]
  rfl
theorem iS {ks : List Str} (h : ks.length ≤ 59) : dO [.lst (ks.map Dv.str)] = some (.ok (.lst ((isortB leS (ST.ddk ks)).map Dv.str))) := by
 show (match bM (ks.map Dv.str) with | some ks => if ks.length ≤ 59 then (some (.ok (.lst ((isortB leS (ST.ddk ks)).map Dv.str))) : Option (Rs Dv)) else none | none => none) = _
 rw [iR]
 dsimp only
 rw [if_pos h]
section
variable {t : List Dv} {xs : List Note} {e m : Nat}
def gls (t : List Dv) (xs : List Note) : List Str := isortB leS (ST.ddk (xs.map (gnm t)))
def lft (t : List Dv) (xs : List Note) (e : Nat) (gl : List Str) (acc : List Note) : List Note := gl.foldl (fun acc g => out acc (tmN (mem (gnm t) xs g) e)) acc
theorem jO {ys zs : List Note} (h : ∀ n ∈ ys, Good n) : ∀ n ∈ out ys zs, Good n := fun n hn => h n (List.mem_filter.mp hn).1
theorem rN {ys : List Note} {r : Nat} (h : ∀ n ∈ ys, Good n) : ∀ n ∈ tmN ys r, Good n := fun n hn => h n ((isortB_perm _ ys).mem_iff.mp (List.mem_of_mem_take hn))
theorem uw {ys : List Note} {g : Str} (h : ∀ n ∈ ys, Good n) : ∀ n ∈ mem (gnm t) ys g, Good n := fun n hn => h n (List.mem_filter.mp hn).1
theorem rO {ys zs : List Note} : (out ys zs).length ≤ ys.length := List.length_filter_le _ _
theorem xu (ht : t ∈ dJ rules) (hg : ∀ n ∈ xs, Good n) (hl : xs.length ≤ 18) {acc : List Note} (ha : ∀ n ∈ acc, Good n) (hal : acc.length ≤ 18) (g : Str) :
 dZ [some (.tup t), some (ej xs), some (.int e), some (.int m), some (ej acc), some (.str g), none] = some (.nx [some (.tup t), some (ej xs), some (.int e), some (.int m), some (ej (out acc (tmN (mem (gnm t) xs g) e))), some (.str g), some (.lst ((mem (gnm t) xs g).map enc))]) := by
 unfold dZ
 have e1 : (aA 1 [("table", 0), ("group", 5)] (bG (ab 1)) (gN 0) (some (fB (f2 eqX (ah ax 2 (aa (ab 1) (aa (ab 0) ag))) (ab 2)))) (ab 0)) [some (.tup t), some (ej xs), some (.int e), some (.int m), some (ej acc), some (.str g), none] = some (.ok (.lst ((mem (gnm t) xs g).map enc))) :=
  iO enc (fun n => decide (gnm t n = g)) enc (dI rfl) (by omega) fun n hn => ⟨bT ((bH (x := .str (gnm t n)) (y := .str g) (fV ax rfl rfl (uv ht (hg n hn)).1) rfl).trans (rM _ _)), rfl⟩
 rw [aq (a5 e1 rfl)]
 simp only [List.set_cons_succ, List.set_cons_zero]
 have hml : (mem (gnm t) xs g).length ≤ 18 := Nat.le_trans (List.length_filter_le _ _) hl
 refine a5 (d := ej (out acc (tmN (mem (gnm t) xs g) e))) ?_ rfl
 exact fV bZ rfl (fV bB rfl rfl (rJ (xs := mem (gnm t) xs g) (.inl rfl) (by omega) e)) (iQ ha (rN (uw hg)) (by omega))
theorem rP (ht : t ∈ dJ rules) (hg : ∀ n ∈ xs, Good n) (hl : xs.length ≤ 18) : ∀ (gl : List Str) (acc : List Note) (a b : Option Dv), (∀ n ∈ acc, Good n) → acc.length ≤ 18 →
 ei 5 [5, 6] dZ (gl.map Dv.str) [some (.tup t), some (ej xs), some (.int e), some (.int m), some (ej acc), a, b] = some (.nx [some (.tup t), some (ej xs), some (.int e), some (.int m), some (ej (lft t xs e gl acc)), none, none])
 | [], acc, a, b, _, _ => rfl
 | g :: gl, acc, a, b, ha, hal => by
  unfold ei
  have e1 : (fgt [5, 6] [some (.tup t), some (ej xs), some (.int e), some (.int m), some (ej acc), a, b]).set 5 (some (.str g)) = [some (.tup t), some (ej xs), some (.int e), some (.int m), some (ej acc), some (.str g), none] := rfl
  show (match dZ ((fgt [5, 6] [some (.tup t), some (ej xs), some (.int e), some (.int m), some (ej acc), a, b]).set 5 (some (.str g))) with | some (.nx ρ') => ei 5 [5, 6] dZ (gl.map Dv.str) ρ' | o => o) = _
  rw [e1, xu ht hg hl ha hal g]
  exact rP ht hg hl gl _ _ _ (jO ha) (Nat.le_trans rO hal)
theorem ux {gl : List Str} : ∀ {acc : List Note}, (∀ n ∈ acc, Good n) → (∀ n ∈ lft t xs e gl acc, Good n) ∧ (lft t xs e gl acc).length ≤ acc.length := by
 induction gl with
 | nil => exact fun h => ⟨h, Nat.le_refl _⟩
 | cons g gl ih => exact fun {acc} h => ⟨(ih (jO h)).1, Nat.le_trans (ih (jO h)).2 rO⟩
theorem AU (ht : t ∈ dJ rules) (hg : ∀ n ∈ xs, Good n) (hl : xs.length ≤ 18) : qV [.tup t, ej xs, .int e, .int m] = some (.ok (ej (out (lft t xs e (gls t xs) xs) (tmN (lft t xs e (gls t xs) xs) m)))) := by
 refine dB ?_
 show qU [some (.tup t), some (ej xs), some (.int e), some (.int m), none, none, none] = _
 unfold qU
 rw [aq (a5 (d := ej xs) rfl rfl)]
 simp only [List.set_cons_succ, List.set_cons_zero]
 have e1 : (aT [("table", 0)] (bG (ab 1)) none (ah ax 2 (aa (ab 1) (aa (ab 0) ag)))) [some (.tup t), some (ej xs), some (.int e), some (.int m), some (ej xs), none, none] = some (.ok (.lst ((xs.map (gnm t)).map Dv.str))) := by
  rw [List.map_map]
  exact eN enc (fun n => .str (gnm t n)) (dI rfl) (by omega) fun n hn => fV ax rfl rfl (uv ht (hg n hn)).1
 have e2 : (bG (fB1 dO (aa (aT [("table", 0)] (bG (ab 1)) none (ah ax 2 (aa (ab 1) (aa (ab 0) ag)))) ag))) [some (.tup t), some (ej xs), some (.int e), some (.int m), some (ej xs), none, none] = some (.ok ((gls t xs).map Dv.str)) := by
  exact nO ((bt (ae e1 av)).trans (iS (by simp; omega)))
 rw [aq ((jg e2).trans (rP ht hg hl (gls t xs) xs none none hg hl))]
 obtain ⟨g1, g2⟩ := ux (t := t) (xs := xs) (e := e) (gl := gls t xs) hg
 refine c4 ?_
 exact fV bZ rfl (fV bB rfl rfl (rJ (xs := lft t xs e (gls t xs) xs) (.inr rfl) (by omega) m)) (iQ g1 (rN g1) (by omega))
end
theorem rQ {α : Type} [DecidableEq α] {acc : List α} {k x : α} (h : x ∈ acc ∨ x = k) : x ∈ ST.addK acc k := by
 unfold ST.addK
 split
 · rcases h with h | rfl
   · exact h
   · assumption
 · rcases h with h | rfl
   · exact List.mem_cons_of_mem _ h
   · exact List.mem_cons_self
theorem rR {α : Type} [DecidableEq α] : ∀ (ks acc : List α) (x : α), x ∈ acc ∨ x ∈ ks → x ∈ ks.foldl ST.addK acc
 | [], acc, x, h => by rcases h with h | h; exact h; simp at h
 | k :: ks, acc, x, h => by
  refine rR ks _ x ?_
  rcases h with h | h
  · exact .inl (rQ (.inl h))
  · rcases List.mem_cons.mp h with rfl | h
    · exact .inl (rQ (.inr rfl))
    · exact .inr h
theorem jP {js xs ys : List Note} (h : Inc js xs) (s : ys.Sublist xs) : Inc js ys := List.Pairwise.sublist s h
section
variable {t : List Dv} {js xs : List Note} {e m : Nat}
theorem rS {n : Note} (h : n ∈ xs) : gnm t n ∈ gls t xs := by
 unfold gls
 rw [(isortB_perm leS _).mem_iff]
 exact rR _ _ _ (.inr (List.mem_map_of_mem h))
theorem vi : ∀ (gl : List Str) (acc : List Note), lft t xs e gl acc = acc.filter fun n => gl.all fun g => !(tmN (mem (gnm t) xs g) e).any fun k => decide (k = n)
 | [], acc => by
  show acc = _
  rw [List.filter_eq_self.mpr (by simp)]
 | g :: gl, acc => by
  show lft t xs e gl (out acc (tmN (mem (gnm t) xs g) e)) = _
  rw [vi gl]
  unfold out
  rw [List.filter_filter]
  apply List.filter_congr
  intro n _
  rw [List.all_cons, Bool.and_comm]
theorem rT (h : Inc js xs) : lft t xs e (gls t xs) xs = aK (gnm t) (lxN js) xs e := by
 rw [vi]
 unfold aK
 apply List.filter_congr
 intro n hn
 have hm : n ∈ mem (gnm t) xs (gnm t n) := by unfold mem; rw [List.mem_filter]; exact ⟨hn, by simp⟩
 have hI : ∀ g, Inc js (mem (gnm t) xs g) := fun g => jP h List.filter_sublist
 rw [Bool.eq_iff_iff]
 simp only [List.all_eq_true, Bool.not_eq_true', List.any_eq_false, decide_eq_true_eq]
 constructor
 · intro z
   have z1 := z (gnm t n) (rS hn)
   cases hc : decide (above (lxN js) (mem (gnm t) xs (gnm t n)) n < e) with
   | true => simpa using hc
   | false => exact absurd rfl (z1 n ((jN (hI _) e n).mpr ⟨hm, by simpa using hc⟩))
 · intro z g hg k hk ek
   subst ek
   obtain ⟨k1, k2⟩ := (jN (hI g) e k).mp hk
   have : gnm t k = g := by
    unfold mem at k1
    rw [List.mem_filter] at k1
    simpa using k1.2
   subst this
   exact k2 z
theorem AV (ht : t ∈ dJ rules) (hg : ∀ n ∈ xs, Good n) (hl : xs.length ≤ 18) (h : Inc js xs) : qV [.tup t, ej xs, .int e, .int m] = some (.ok (ej (dL (gnm t) (lxN js) xs e m))) := by
 rw [AU ht hg hl, rT h, uu (jP h inner_sub)]
 rfl
theorem rV (J : Jar js) (s : xs.Sublist js) : Jar xs := by
 refine ⟨fun n hn => J.g n (s.subset hn), ?_, s.map key |>.nodup J.k, Nat.le_trans s.length_le J.l⟩
 have hp : js.Pairwise (fun a b => a.md ≤ b.md) := by
  have key : ∀ (l : List Note), (∀ i (h : i + 1 < l.length), l[i].md ≤ l[i + 1].md) → l.Pairwise (fun a b => a.md ≤ b.md) := by
   intro l
   induction l with
   | nil => exact fun _ => .nil
   | cons a l ih =>
    intro h
    have ih' := ih fun i hi => by
     have := h (i + 1) (by simpa using hi)
     simpa using this
    rw [List.pairwise_cons]
    refine ⟨fun b hb => ?_, ih'⟩
    cases l with
    | nil => simp at hb
    | cons c l =>
     have h0 : a.md ≤ c.md := by simpa using h 0 (by simp)
     rw [List.pairwise_cons] at ih'
     rcases List.mem_cons.mp hb with rfl | hb
     · exact h0
     · exact Int.le_trans h0 (ih'.1 b hb)
  exact key js J.s
 have hq : xs.Pairwise (fun a b => a.md ≤ b.md) := hp.sublist s
 intro i hi
 rw [List.pairwise_iff_getElem] at hq
 exact hq i (i + 1) (by omega) hi (by omega)
theorem vj {r : Nat} (h : r ≤ 20) : aW [.int r] = some (.ok .non) := by
 have e : ar [.int r, .int 0, .int 20] = bo true := by
  have h0 : (0 : Int) ≤ (r : Int) := by omega
  have h1 : (r : Int) ≤ 20 := by omega
  simp [ar, aZ, aC, aJ, sq, bw, aF, cT, bnd, bOr, dA, fB, toB, ab, f1, f2, iZ, fY, cY, kj, leX, h0, h1]
 simp [aW, aZ, cQ, bw, cT, bnd, dA, fB, toB, ah, aa, ag, ab, fC, e]
theorem rW : ((dJ rules).all fun t => okY (bS [.tup t])) = true := by kernel_rfl
theorem rX {t : List Dv} (ht : t ∈ dJ rules) : bS [.tup t] = bo true := lr (ci (p := fun t => okY (bS [.tup t])) rW ht)
theorem Dz (ht : t ∈ dJ rules) : aM [.tup t] = some (.ok .non) := by
 have e := rX ht
 simp [aM, aZ, cf, bw, cT, bnd, dA, fB, toB, ah, aa, ag, ab, e]
theorem DA (J : Jar xs) : bj [ej xs] = some (.ok .non) := by
 have e := AO J
 simp [bj, aZ, dt, bw, cT, bnd, dA, fB, toB, ah, aa, ag, ab, e]
theorem cF (ht : t ∈ dJ rules) (J : Jar js) (s : xs.Sublist js) (nd : js.Nodup) (he : e ≤ 20) (hm : m ≤ 20) : bE [.tup t, ej xs, .int e, .int m] = some (.ok (ej (dL (gnm t) (lxN js) xs e m))) := by
 have Jx := rV J s
 refine dB ?_
 show eL [some (.tup t), some (ej xs), some (.int e), some (.int m)] = _
 unfold eL
 rw [aq (dk (gs aM rfl (Dz ht))), aq (dk (gs bj rfl (DA Jx))), aq (dk (gs aW rfl (vj he))), aq (dk (gs aW rfl (vj hm)))]
 exact c4 (bC (ae rfl (ae rfl (ae rfl (ae rfl av)))) rfl (AV ht Jx.g Jx.l (jP (jM nd) s)))
end
theorem rY {α : Type} (f g : α → Nat) : ∀ l : List α, (l.map fun a => f a + g a).sum = (l.map f).sum + (l.map g).sum
 | [] => rfl
 | a :: l => by simp [rY f g l]; omega
theorem CW : ∀ {l : List Nat}, (∀ n ∈ l, n = 0) → l.sum = 0
 | [], _ => rfl
 | n :: l, h => by rw [List.sum_cons, h n List.mem_cons_self, CW fun k hk => h k (List.mem_cons_of_mem _ hk)]
theorem rZ {γ : Type} [DecidableEq γ] (x : γ) : ∀ {l : List γ}, l.Nodup → x ∈ l → (l.map fun g => if x = g then 1 else 0).sum = 1
 | [], _, h => by simp at h
 | g :: l, nd, h => by
  rw [List.nodup_cons] at nd
  simp only [List.map_cons, List.sum_cons]
  by_cases e : x = g
  · subst e
    have : (l.map fun g => if x = g then 1 else 0).sum = 0 := by
     refine CW fun n hn => ?_
     obtain ⟨g, hg, rfl⟩ := List.mem_map.mp hn
     rw [if_neg (fun (z : x = g) => nd.1 (by rw [z]; exact hg))]
    rw [this]
    simp
  · rw [if_neg e, rZ x nd.2 ((List.mem_cons.mp h).resolve_left e)]
theorem r8 {α γ : Type} [DecidableEq γ] (f : α → γ) {gl : List γ} (nd : gl.Nodup) : ∀ xs : List α, (∀ n ∈ xs, f n ∈ gl) → (gl.map fun g => (mem f xs g).length).sum = xs.length
 | [], _ => by
  refine CW fun n hn => ?_
  obtain ⟨g, hg, rfl⟩ := List.mem_map.mp hn
  rfl
 | x :: xs, h => by
  have ih := r8 f nd xs fun n hn => h n (List.mem_cons_of_mem _ hn)
  have e : (gl.map fun g => (mem f (x :: xs) g).length) = gl.map fun g => (if f x = g then 1 else 0) + (mem f xs g).length := by
   apply List.map_congr_left
   intro g _
   unfold mem
   by_cases q : f x = g
   · simp [q]; omega
   · simp [q]
  rw [e, rY, ih, rZ (f x) nd (h x List.mem_cons_self)]
  simp
  omega
theorem r9 {α : Type} [DecidableEq α] : ∀ (ks acc : List α), acc.Nodup → (ks.foldl ST.addK acc).Nodup
 | [], acc, h => h
 | k :: ks, acc, h => r9 ks _ (by
  unfold ST.addK
  split
  · exact h
  · exact List.nodup_cons.mpr ⟨by assumption, h⟩)
section
variable {t : List Dv} {js xs : List Note} {e m : Nat}
theorem sd : (gls t xs).Nodup := (isortB_perm leS _).nodup_iff.mpr (r9 _ [] List.nodup_nil)
theorem mw (h : Inc js xs) : ∀ k : List Note, k.Sublist xs → ∃ S : List Note, S.Perm k ∧ S.Pairwise (fun a b => lxN js b a = true) := fun k hk =>
 ⟨(rF k).reverse, (List.reverse_perm _).trans (isortB_perm _ k), List.pairwise_reverse.mpr (rL (jP h hk))⟩
theorem xx (h : Inc js xs) : (dL (gnm t) (lxN js) xs e m).length = min m (aK (gnm t) (lxN js) xs e).length := by
 obtain ⟨S, hp, hs⟩ := mw h _ (inner_sub (gr := gnm t) (lt := lxN js) (e := e))
 exact nG (dg js) hp hs m
def row (t : List Dv) (xs : List Note) (g : Str) : Dv := .tup [.str g, .int (mem (gnm t) xs g).length]
theorem AW (g : Str) : Be ((xs.map (gnm t)).map Dv.str) [.str g] = some (.ok (.int (mem (gnm t) xs g).length)) ∨ 100000 < xs.length := by
 by_cases hl : xs.length ≤ 100000
 · left
   have h1 : ((xs.map (gnm t)).map Dv.str).all cu = true := by simp [List.all_map, cu]
   have h2 : ((xs.map (gnm t)).map Dv.str).countP (fun y => eqF y (.str g)) = (mem (gnm t) xs g).length := by
    rw [List.map_map, List.countP_map]
    unfold mem
    rw [List.countP_eq_length_filter]
    congr 1
    apply List.filter_congr
    intro n _
    show seq (gnm t n) g = _
    rw [← mO, Bool.eq_iff_iff]
    simp
   show (if _ then some (Rs.ok (Dv.int (((xs.map (gnm t)).map Dv.str).countP (fun y => eqF y (.str g)) : Nat))) else none) = _
   rw [h1, h2, if_pos (by simp [cu, hl])]
 · right; omega
theorem lz (ht : t ∈ dJ rules) (J : Jar xs) : cR [.tup t, ej xs] = some (.ok (.lst ((gls t xs).map (row t xs)))) := by
 have hl := J.l
 refine dB ?_
 show eM [some (.tup t), some (ej xs), none] = _
 unfold eM
 rw [aq (dk (gs aM rfl (Dz ht))), aq (dk (gs bj rfl (DA J)))]
 have e1 : (aT [("table", 0)] (bG (ab 1)) none (ah ax 2 (aa (ab 1) (aa (ab 0) ag)))) [some (.tup t), some (ej xs), none] = some (.ok (.lst ((xs.map (gnm t)).map Dv.str))) := by
  rw [List.map_map]
  exact eN enc (fun n => .str (gnm t n)) (dI rfl) (by omega) fun n hn => fV ax rfl rfl (uv ht (J.g n hn)).1
 rw [aq (a5 e1 rfl)]
 simp only [List.set_cons_succ, List.set_cons_zero]
 refine c4 ?_
 have hgl : (gls t xs).length ≤ 18 := by
  unfold gls
  rw [(isortB_perm leS _).length_eq]
  have := ST.ddk_le (xs.map (gnm t))
  simp at this
  omega
 refine eN Dv.str (row t xs) (nO ((bt (ae (x := .lst ((xs.map (gnm t)).map Dv.str)) rfl av)).trans (iS (by simp; omega)))) (by show (gls t xs).length ≤ 100000; omega) fun g hg => ?_
 refine pU (ae rfl (ae ?_ av)) (by show 2 ≤ 100000; decide)
 have := (AW (t := t) (xs := xs) g).resolve_right (by omega)
 exact this
end
theorem nP {elt : FnE} {cap : Ev} {α : Type} (u v f : α → Dv) : ∀ {l : List α}, (∀ a ∈ l, elt ((cap.set 0 (some (u a))).set 1 (some (v a))) = some (.ok (f a))) → eQ (gP 0 1) none elt cap (l.map fun a => .tup [u a, v a]) = some (l.map f)
 | [], _ => rfl
 | a :: l, h => by
  have ih := nP (elt := elt) (cap := cap) u v f (l := l) fun b hb => h b (List.mem_cons_of_mem _ hb)
  rw [List.map_cons, List.map_cons]
  unfold eQ
  show (match elt ((cap.set 0 (some (u a))).set 1 (some (v a))) with | some (.ok y) => _ | _ => _) = _
  rw [h a List.mem_cons_self, ih]
theorem lA {cs : List (Str × Nat)} {src : FnA} {elt : FnE} {ρ : Ev} {α : Type} (u v f : α → Dv) {l : List α} (hs : src ρ = some (.ok (l.map fun a => .tup [u a, v a]))) (hl : l.length ≤ 100000) (h : ∀ a ∈ l, elt (((cZ 2 cs ρ).set 0 (some (u a))).set 1 (some (v a))) = some (.ok (f a))) : aA 2 cs src (gP 0 1) none elt ρ = some (.ok (.lst (l.map f))) := by
 unfold aA
 rw [hs]
 show (match eQ (gP 0 1) none elt (cZ 2 cs ρ) (l.map fun a => .tup [u a, v a]) with | some ys => _ | none => _) = _
 rw [nP u v f h]
 dsimp only
 rw [if_pos ⟨by simpa using hl, by simpa using hl⟩]
theorem iT : ∀ ns : List Int, c7 (ns.map Dv.int) = some ns
 | [] => rfl
 | n :: ns => by
  show (c7 (ns.map Dv.int)).map (n :: ·) = _
  rw [iT ns]
  rfl
theorem nQ {α : Type} (f : α → Nat) : ∀ l : List α, (l.map fun a => (f a : Int)).sum = ((l.map f).sum : Nat)
 | [] => rfl
 | a :: l => by simp [nQ f l]
theorem xz {α : Type} (f : α → Nat) (l : List α) : Bk [.lst (l.map fun a => Dv.int (f a : Int))] = some (.ok (.int ((l.map f).sum : Nat))) := by
 have e : (l.map fun a => Dv.int (f a : Int)) = (l.map fun a => (f a : Int)).map Dv.int := by rw [List.map_map]; rfl
 show (match c7 (l.map fun a => Dv.int (f a : Int)) with | some ns => some (Rs.ok (Dv.int ns.sum)) | none => none) = _
 rw [e, iT]
 dsimp only
 rw [nQ]
theorem se {k : Nat} {d : Dv} (h : It1 k d) (hk : k ≤ 64) : neX d d = some (.ok (.bl false)) := xc (h.okP hk) h.p
theorem mx {xs ys : List Note} (hx : ∀ n ∈ xs, Good n) (hy : ∀ n ∈ ys, Good n) {ρ : Ev} {i j : Nat} {s : Str} (hl : xs.length ≤ 100) (hi : ρ[i]? = some (some (ej xs))) (hj : ρ[j]? = some (some (ej ys))) :
 (aT [(s, j)] (bG (ab i)) (some (fB (f2 inX (ab 0) (ab 1)))) (ab 0)) ρ = some (.ok (.lst ((xs.filter fun n => ys.any fun m => decide (m = n)).map enc))) ∧
 (aT [(s, j)] (bG (ab i)) (some (fB (f2 cw (ab 0) (ab 1)))) (ab 0)) ρ = some (.ok (.lst ((xs.filter fun n => !ys.any fun m => decide (m = n)).map enc))) := by
 have hc : ∀ d, (sr [(s, j)] ρ).set 0 (some d) = [some d, some (ej ys)] := fun d => by simp [sr, hj]
 refine ⟨df enc _ enc (dI hi) (by omega) fun n hn => ?_, df enc _ enc (dI hi) (by omega) fun n hn => ?_⟩
 · rw [hc]
   exact ⟨bT ((bH (x := enc n) (y := ej ys) rfl rfl).trans (ui ((dH (hx n hn)).le (by omega)) rfl (fun a ha => (dH (hy a ha)).le (by omega)) fun a _ => jI a n).2.2.1), rfl⟩
 · rw [hc]
   exact ⟨bT ((bH (x := enc n) (y := ej ys) rfl rfl).trans (ui ((dH (hx n hn)).le (by omega)) rfl (fun a ha => (dH (hy a ha)).le (by omega)) fun a _ => jI a n).2.2.2), rfl⟩
theorem nR {xs ys : List Note} (h : ∀ n ∈ xs, n ∈ ys) : (xs.filter fun n => !ys.any fun m => decide (m = n)) = [] := by
 rw [List.filter_eq_nil_iff]
 intro n hn
 simp
 exact h n hn
theorem xA {xs : List Note} (q : Note → Bool) : (xs.filter fun n => (xs.filter q).any fun m => decide (m = n)) = xs.filter q := by
 apply List.filter_congr
 intro n hn
 rw [Bool.eq_iff_iff]
 simp [List.mem_filter, hn]
theorem vk {t : List Dv} {xs : List Note} {g : Str} (h : PyData.canLay0 (.str g) = true) : It1 1 (row t xs g) := nA fun d hd => by
 simp only [List.mem_cons, List.not_mem_nil, or_false] at hd
 rcases hd with rfl | rfl
 · exact eP h
 · exact nB
theorem my (xs : List Note) : du [ej xs] = some (.ok (.int (xs.length : Nat))) := by
 show some (Rs.ok (Dv.int ((xs.map enc).length : Int))) = _
 rw [List.length_map]
theorem ne_int {a b : Nat} (h : a = b) : neX (.int (a : Int)) (.int (b : Int)) = some (.ok (.bl false)) := by
 subst h
 show some (Rs.ok (Dv.bl (!((a : Int) == (a : Int))))) = _
 simp
theorem CY : neX (.lst []) (.lst []) = some (.ok (.bl false)) := by kernel_rfl
theorem mz {t : List Dv} {xs : List Note} : (gls t xs).length ≤ xs.length := by
 unfold gls
 rw [(isortB_perm leS _).length_eq]
 have := ST.ddk_le (xs.map (gnm t))
 simpa using this
theorem jQ {α : Type} [DecidableEq α] : ∀ (ks acc : List α) (x : α), x ∈ ks.foldl ST.addK acc → x ∈ ks ∨ x ∈ acc
 | [], acc, x, h => .inr h
 | k :: ks, acc, x, h => by
  rcases jQ ks _ x h with q | q
  · exact .inl (List.mem_cons_of_mem _ q)
  · unfold ST.addK at q
    split at q
    · exact .inr q
    · rcases List.mem_cons.mp q with rfl | q
      · exact .inl List.mem_cons_self
      · exact .inr q
theorem sf {t : List Dv} {xs : List Note} (ht : t ∈ dJ rules) (hg : ∀ n ∈ xs, Good n) {g : Str} (h : g ∈ gls t xs) : PyData.canLay0 (.str g) = true := by
 unfold gls at h
 rw [(isortB_perm leS _).mem_iff] at h
 rcases jQ _ _ _ h with q | q
 · obtain ⟨n, hn, rfl⟩ := List.mem_map.mp q
   exact (uv ht (hg n hn)).2
 · simp at q
def iU (t : List Dv) (h : Str) : Bool := match aP [.tup t, .str h], dq [.tup t, .str h] with
 | some (.ok .non), some (.ok .non) => true
 | some (.ok (.str z)), some (.ok (.str y)) => seq z y
 | _, _ => false
def bc : Nat → List (List Dv)
 | 0 => dJ rules
 | k + 1 => (bc k).drop 16
theorem Ep : ((bc 0).take 16).all (fun t => En.all (iU t)) = true := by kernel_rfl
theorem Er : ((bc 1).take 16).all (fun t => En.all (iU t)) = true := by kernel_rfl
theorem Es : ((bc 2).take 16).all (fun t => En.all (iU t)) = true := by kernel_rfl
theorem Et : ((bc 3).take 16).all (fun t => En.all (iU t)) = true := by kernel_rfl
theorem Eu : ((bc 4).take 16).all (fun t => En.all (iU t)) = true := by kernel_rfl
theorem Ew : ((bc 5).take 16).all (fun t => En.all (iU t)) = true := by kernel_rfl
theorem Ex : ((bc 6).take 16).all (fun t => En.all (iU t)) = true := by kernel_rfl
theorem Ey : ((bc 7).take 16).all (fun t => En.all (iU t)) = true := by kernel_rfl
theorem Ez : ((bc 8).take 16).all (fun t => En.all (iU t)) = true := by kernel_rfl
theorem EA : ((bc 9).take 16).all (fun t => En.all (iU t)) = true := by kernel_rfl
theorem CZ : ((bc 10).take 16).all (fun t => En.all (iU t)) = true := by kernel_rfl
theorem C0 : ((bc 11).take 16).all (fun t => En.all (iU t)) = true := by kernel_rfl
theorem C1 : ((bc 12).take 16).all (fun t => En.all (iU t)) = true := by kernel_rfl
theorem C2 : ((bc 13).take 16).all (fun t => En.all (iU t)) = true := by kernel_rfl
theorem C3 : ((bc 14).take 16).all (fun t => En.all (iU t)) = true := by kernel_rfl
theorem C4 : ((bc 15).take 16).all (fun t => En.all (iU t)) = true := by kernel_rfl
theorem AX : (dJ rules).all (fun t => En.all (iU t)) = true := h8 (l := bc 0) 16 Ep (h8 (l := bc 1) 16 Er (h8 (l := bc 2) 16 Es (h8 (l := bc 3) 16 Et (h8 (l := bc 4) 16 Eu (h8 (l := bc 5) 16 Ew (h8 (l := bc 6) 16 Ex (h8 (l := bc 7) 16 Ey (h8 (l := bc 8) 16 Ez (h8 (l := bc 9) 16 EA (h8 (l := bc 10) 16 CZ (h8 (l := bc 11) 16 C0 (h8 (l := bc 12) 16 C1 (h8 (l := bc 13) 16 C2 (h8 (l := bc 14) 16 C3 C4))))))))))))))
theorem AY {t : List Dv} (ht : t ∈ dJ rules) {n : Note} (g : Good n) : aG [.tup t, enc n] = some (.ok (.str (gnm t n))) := by
 have hh := g.house
 have q := ci (p := iU t) (ci (p := fun t => En.all (iU t)) AX ht) hh
 unfold iU at q
 unfold gnm ia
 split at q
 · rename_i e e'
   rw [e]
   simp [aG, aZ, bI, aJ, sq, bw, aF, bF, cT, bnd, fB, toB, ah, aa, ag, ab, fC, f2, ixD, atD, fIf, isN, enc, e']
 · rename_i z y e e'
   rw [e]
   have := uj q
   subst this
   simp [aG, aZ, bI, aJ, sq, bw, aF, bF, cT, bnd, fB, toB, ah, aa, ag, ab, fC, f2, ixD, atD, fIf, isN, enc, e']
 · cases q
theorem nS {α : Type} {le : α → α → Bool} : ∀ {l : List α}, l.Pairwise (fun a b => le a b = true) → isortB le l = l
 | [], _ => rfl
 | x :: l, h => by
  rw [List.pairwise_cons] at h
  show jR le x (isortB le l) = x :: l
  rw [nS h.2]
  cases l with
  | nil => rfl
  | cons y l =>
   unfold jR
   rw [if_pos (h.1 y List.mem_cons_self)]
theorem iV : ∀ rs : List (List Dv), gF (rs.map Dv.tup) = some rs
 | [] => rfl
 | r :: rs => by
  show (gF (rs.map Dv.tup)).map (r :: ·) = _
  rw [iV rs]
  rfl
section
variable {t : List Dv} {js xs : List Note} {e : Nat}
def rw2 (t : List Dv) (xs : List Note) (g : Str) : List Dv := [.str g, .int (mem (gnm t) xs g).length]
theorem sg : (gls t xs).Pairwise (fun a b => leS a b = true) := isortB_sorted ordS _
theorem oJ (hl : xs.length < 64) : tV [.lst ((gls t xs).map (row t xs))] = some (.ok (.lst ((gls t xs).map (row t xs)))) := by
 have e0 : (gls t xs).map (row t xs) = ((gls t xs).map (rw2 t xs)).map Dv.tup := by rw [List.map_map]; rfl
 rw [e0]
 show (match gF (((gls t xs).map (rw2 t xs)).map Dv.tup) with
  | some rows => if ca rows = true then some (Rs.ok (Dv.lst ((isortB (fun a b => !ltL b a) rows).map Dv.tup))) else none
  | none => zE [.lst (((gls t xs).map (rw2 t xs)).map Dv.tup)]) = _
 rw [iV]
 dsimp only
 have hz := mz (t := t) (xs := xs)
 rw [if_pos, nS]
 · rw [List.pairwise_map]
   refine (sg (t := t) (xs := xs)).imp fun {a b} h => ?_
   show (!ltL [.str b, _] [.str a, _]) = true
   unfold leS at h
   simp only [ltL]
   split
   · rename_i hq
     have : b = a := by simpa [eqI] using hq
     subst this
     simp [eqI, ltI]
   · simpa [ltI] using h
 · unfold ca
   rw [Bool.and_eq_true, decide_eq_true_eq, List.all_eq_true]
   refine ⟨by simp; omega, fun r hr => ?_⟩
   obtain ⟨g, hg, rfl⟩ := List.mem_map.mp hr
   cases hgl : gls t xs with
   | nil => rw [hgl] at hg; simp at hg
   | cons x l => rfl
theorem sh {g : Str} : g ∈ gls t xs ↔ ∃ n ∈ xs, gnm t n = g := by
 constructor
 · intro h
   unfold gls at h
   rw [(isortB_perm leS _).mem_iff] at h
   rcases jQ _ _ _ h with q | q
   · exact List.mem_map.mp q
   · simp at q
 · rintro ⟨n, hn, rfl⟩
   exact rS hn
theorem xB {α : Type} [DecidableEq α] {l m : List α} (h1 : l.Nodup) (h2 : m.Nodup) (h : ∀ x, x ∈ l ↔ x ∈ m) : l.Perm m := by
 rw [List.perm_iff_count]
 intro a
 by_cases ha : a ∈ l
 · rw [h1.count, h2.count, if_pos ha, if_pos ((h a).1 ha)]
 · rw [h1.count, h2.count, if_neg ha, if_neg fun q => ha ((h a).2 q)]
theorem sj (h : Inc js xs) (he : 1 ≤ e) : gls t (aK (gnm t) (lxN js) xs e) = gls t xs := by
 refine sorted_uniq ordS (xB sd sd fun g => ?_) sg sg
 rw [sh, sh]
 constructor
 · rintro ⟨n, hn, z⟩
   exact ⟨n, inner_sub.subset hn, z⟩
 · rintro ⟨n, hn, z⟩
   have hc := ly (gr := gnm t) (e := e) (dg js) (mw h) g
   have h1 : n ∈ mem (gnm t) xs g := by unfold mem; rw [List.mem_filter]; exact ⟨hn, by simpa using z⟩
   have h2 := List.length_pos_of_mem h1
   have h3 : 0 < (mem (gnm t) (aK (gnm t) (lxN js) xs e) g).length := by omega
   obtain ⟨m, hm⟩ := List.exists_mem_of_length_pos h3
   unfold mem at hm
   rw [List.mem_filter] at hm
   exact ⟨m, hm.1, by simpa using hm.2⟩
theorem mB {l : List Note} {u s : Note} (hu : u ∈ aK (gnm t) (lxN js) l e) (hs : s ∈ l) (hg : gnm t u = gnm t s) (h : lxN js u s = true) : s ∈ aK (gnm t) (lxN js) l e := by
 unfold aK at *
 rw [List.mem_filter] at *
 refine ⟨hs, ?_⟩
 have h1 := hu.2
 simp only [decide_eq_true_eq] at h1 ⊢
 rw [hg] at h1
 refine Nat.lt_of_le_of_lt ?_ h1
 unfold above
 exact List.countP_mono_left fun x _ hx => (dg js).tr _ _ _ h hx
theorem fF {l : List Note} {e e' : Nat} (he : e ≤ e') : ∀ i ∈ aK (gnm t) (lxN js) l e, i ∈ aK (gnm t) (lxN js) l e' := fun i h => by
 unfold aK at *
 rw [List.mem_filter] at *
 have := h.2
 simp only [decide_eq_true_eq] at this ⊢
 exact ⟨h.1, by omega⟩
theorem oK {l : List Note} : aK (gnm t) (lxN js) l 0 = [] := by unfold aK; simp
theorem uy {l : List Note} : dL (gnm t) (lxN js) l e 0 = [] := by unfold dL keep; simp
end
theorem aO {i : Nat} {js : List Nat} {body : FnS} {d : Dv} {ds : List Dv} {ρ ρ' : Ev} (h : body ((fgt js ρ).set i (some d)) = some (.nx ρ')) : ei i js body (d :: ds) ρ = ei i js body ds ρ' := by
 show (match body ((fgt js ρ).set i (some d)) with | some (.nx ρ') => ei i js body ds ρ' | o => o) = _
 rw [h]
section
variable {ns : List Int} {t : List Dv} {js la : List Note} {e m : Nat}
def R1 (ns : List Int) (t : List Dv) (js la : List Note) (e : Nat) (xs : List Note) (x7 x8 : Option Dv) : Ev := [some (.scr ns), some (.tup t), some (ej js), some (.lst ((gls t js).map (row t js))), some (ej la), some (.int e), some (ej xs), x7, x8, none]
theorem AZ {xs : List Note} {n : Note} (gn : Good n) (gx : ∀ n ∈ xs, Good n) {ρ : Ev} {i j : Nat} (hi : ρ[i]? = some (some (enc n))) (hj : ρ[j]? = some (some (ej xs))) : fB (f2 cw (ab i) (ab j)) ρ = some (.ok (!xs.any fun m => decide (m = n))) :=
 bT ((bH (pS hi) (pS hj)).trans (ui ((dH gn).le (by omega)) rfl (fun a ha => (dH (gx a ha)).le (by omega)) fun a _ => jI a n).2.2.2)
theorem sk (ht : t ∈ dJ rules) {inn : List Note} (hinn : inn = aK (gnm t) (lxN js) js e) (gj : ∀ n ∈ js, Good n) (hjl : js.length ≤ 6) {n : Note} (hn : n ∈ js) : ∃ x8, fA (R1 ns t js la e inn (some (enc n)) none) = some (.nx (R1 ns t js la e inn (some (enc n)) x8)) := by
 have gi : ∀ n ∈ inn, Good n := fun n hn => gj n (inner_sub.subset (hinn ▸ hn))
 have il : inn.length ≤ 6 := Nat.le_trans (List.Sublist.length_le (hinn ▸ inner_sub)) hjl
 have q5 : mo (R1 ns t js la e inn (some (enc n)) none) = some (.ok (!inn.any fun m => decide (m = n))) := AZ (gj n hn) gi rfl rfl
 unfold fA
 cases hq : inn.any fun m => decide (m = n) with
 | true =>
  rw [hq] at q5
  exact ⟨none, by rw [CM q5]⟩
 | false =>
  rw [hq] at q5
  rw [CN q5]
  have hni : n ∉ inn := fun z => by
   have : (inn.any fun m => decide (m = n)) = true := List.any_eq_true.2 ⟨n, z, by simp⟩
   rw [hq] at this
   cases this
  obtain ⟨lf, hlf⟩ : ∃ l, l = inn.filter fun o => decide (gnm t o = gnm t n) := ⟨_, rfl⟩
  have gl : ∀ o ∈ lf, Good o := fun o ho => by
   rw [hlf, List.mem_filter] at ho
   exact gi o ho.1
  have w5 : mq (R1 ns t js la e inn (some (enc n)) none) = some (.ok (.lst (lf.map enc))) := by
   rw [hlf]
   exact iO enc (fun o => decide (gnm t o = gnm t n)) enc (dI rfl) (by omega) fun o ho =>
    ⟨bT ((bH (x := .str (gnm t o)) (y := .str (gnm t n)) (fV aG rfl rfl (AY ht (gi o ho))) (fV aG rfl rfl (AY ht (gj n hn)))).trans (rM _ _)), rfl⟩
  rw [aq (ρ' := R1 ns t js la e inn (some (enc n)) (some (.lst (lf.map enc)))) (a5 w5 rfl)]
  refine ⟨some (.lst (lf.map enc)), bd ?_⟩
  have ll : lf.length ≤ 6 := by rw [hlf]; exact Nat.le_trans (List.length_filter_le _ _) il
  have f1 : (lf.filter fun o => ltN o n) = [] := by
   rw [List.filter_eq_nil_iff]
   intro o ho hlt
   rw [hlf, List.mem_filter] at ho
   refine hni ?_
   have hu := ho.1
   rw [hinn] at hu ⊢
   exact mB hu hn (by simpa using ho.2) (lxN_iff.mpr (.inl hlt))
  have g1 : (aT [("_law_note", 7)] (bG (ab 8)) (some (fB (f2 ltT (dh (aa (f2 ixD (ab 0) (fC (.int 6))) (aa (f2 ixD (ab 0) (fC (.int 9))) ag))) (dh (aa (f2 ixD (ab 1) (fC (.int 6))) (aa (f2 ixD (ab 1) (fC (.int 9))) ag)))))) (ab 0)) (R1 ns t js la e inn (some (enc n)) (some (.lst (lf.map enc)))) = some (.ok (.lst ((lf.filter fun o => ltN o n).map enc))) :=
   df enc _ enc (rn rfl) (by omega) fun o ho => ⟨bT (by
    refine (bH (x := .tup (nJ o)) (y := .tup (nJ n)) (by rfl) (by rfl)).trans ?_
    rfl), rfl⟩
  exact bT ((bH (x := .lst []) (y := .lst []) (g1.trans (by rw [f1]; rfl)) rfl).trans CY)
theorem lB (ht : t ∈ dJ rules) {inn : List Note} (hinn : inn = aK (gnm t) (lxN js) js e) (gj : ∀ n ∈ js, Good n) (hjl : js.length ≤ 6) : ∀ (xs : List Note), (∀ n ∈ xs, n ∈ js) → ∀ x7 x8, ∃ x7' x8', ei 7 [8] fA (xs.map enc) (R1 ns t js la e inn x7 x8) = some (.nx (R1 ns t js la e inn x7' x8'))
 | [], _, x7, x8 => ⟨x7, none, rfl⟩
 | n :: xs, h, x7, x8 => by
  obtain ⟨y, hy⟩ := sk (ns := ns) (la := la) ht hinn gj hjl (h n List.mem_cons_self)
  obtain ⟨a, b, hab⟩ := lB ht hinn gj hjl xs (fun k hk => h k (List.mem_cons_of_mem _ hk)) (some (enc n)) y
  exact ⟨a, b, (aO hy).trans hab⟩
theorem nU (ht : t ∈ dJ rules) (J : Jar js) (nd : js.Nodup) (hjl : js.length ≤ 6) (h1 : 1 ≤ e) (he : e ≤ 20) (gla : ∀ n ∈ la, Good n) (hll : la.length ≤ 20) (hla : ∀ n ∈ la, n ∈ aK (gnm t) (lxN js) js e) (x6 x7 : Option Dv) :
 ∃ x7' x8', hX [some (.scr ns), some (.tup t), some (ej js), some (.lst ((gls t js).map (row t js))), some (ej la), some (.int e), x6, x7, none, none] = some (.nx (R1 ns t js (aK (gnm t) (lxN js) js e) e (aK (gnm t) (lxN js) js e) x7' x8')) := by
 have gj := J.g
 have T := dg js
 have hI : Inc js js := jM nd
 obtain ⟨inn, hinn⟩ : ∃ l, l = aK (gnm t) (lxN js) js e := ⟨_, rfl⟩
 rw [← hinn] at hla ⊢
 have si : inn.Sublist js := hinn ▸ inner_sub
 have gi : ∀ n ∈ inn, Good n := fun n hn => gj n (si.subset hn)
 have il : inn.length ≤ 6 := Nat.le_trans si.length_le hjl
 have Ji : Jar inn := rV J si
 unfold hX
 have w4 : mn [some (.scr ns), some (.tup t), some (ej js), some (.lst ((gls t js).map (row t js))), some (ej la), some (.int e), x6, x7, none, none] = some (.ok (ej inn)) :=
  bC (ae rfl (ae rfl (ae rfl (ae rfl av)))) rfl ((cF (m := 20) ht J (.refl _) nd he (by omega)).trans (by rw [jL T (by omega), hinn]))
 rw [aq (ρ' := R1 ns t js la e inn x7 none) (a5 w4 rfl)]
 have q3 : jC (R1 ns t js la e inn x7 none) = some (.ok false) := by
  unfold jC
  rw [wl (pR (bT (gs cP rfl (AO Ji))))]
  have f1 : (la.filter fun n => !inn.any fun m => decide (m = n)) = [] := nR hla
  exact bT ((bH (x := .lst []) (y := .lst []) ((mx gla gi (by omega) rfl rfl).2.trans (by rw [f1]; rfl)) rfl).trans CY)
 rw [aq (bd q3)]
 have q4 : jD (R1 ns t js la e inn x7 none) = some (.ok false) := by
  unfold jD
  have gsz := mz (t := t) (xs := js)
  have g1 : (aA 2 [("_law_each", 5)] (bG (ab 3)) (gP 0 1) none (dh (aa (ab 0) (aa (fB1 zr (aa (ab 2) (aa (ab 1) ag))) ag)))) (R1 ns t js la e inn x7 none) = some (.ok (.lst ((gls t inn).map (row t inn)))) := by
   have eg : gls t inn = gls t js := by rw [hinn]; exact sj hI h1
   rw [eg]
   refine lA (fun g => .str g) (fun g => .int (mem (gnm t) js g).length) (row t inn) (nO rfl) (by omega) fun g _ => ?_
   refine pU (ds := [.str g, .int (mem (gnm t) inn g).length]) (ae rfl (ae ?_ av)) (by simp)
   refine (bt (ae (x := .int e) rfl (ae (x := .int (mem (gnm t) js g).length) rfl av))).trans ?_
   have hc : (mem (gnm t) inn g).length = min e (mem (gnm t) js g).length := by rw [hinn]; exact ly T (mw hI) g
   show some (Rs.ok (Dv.int (if ((mem (gnm t) js g).length : Int) < (e : Int) then ((mem (gnm t) js g).length : Int) else (e : Int)))) = _
   rw [hc]
   congr 3
   split <;> omega
  refine bT ((bH (fV cR rfl rfl (lz ht Ji)) g1).trans (se (k := 2) (rk fun d hd => ?_) (by omega)))
  obtain ⟨g, hg, rfl⟩ := List.mem_map.mp hd
  exact vk (sf ht gi hg)
 rw [aq (bd q4)]
 obtain ⟨a, b, hab⟩ := lB (ns := ns) (la := la) (e := e) ht hinn gj hjl js (fun _ h => h) x7 none
 have w7 : mN 7 [8] (bG (ab 2)) fA (R1 ns t js la e inn x7 none) = some (.nx (R1 ns t js la e inn a b)) := (jg (dI rfl)).trans hab
 rw [aq w7]
 exact ⟨a, b, a5 (d := ej inn) rfl rfl⟩
def R2 (ns : List Int) (t : List Dv) (js la : List Note) (m : Option Dv) (x6 x7 : Option Dv) : Ev := [some (.scr ns), some (.tup t), some (ej js), some (.lst ((gls t js).map (row t js))), some (ej la), none, x6, x7, none, m]
theorem vm (ht : t ∈ dJ rules) (J : Jar js) (nd : js.Nodup) (hjl : js.length ≤ 6) (hm : m ≤ 20) (gla : ∀ n ∈ la, Good n) (hll : la.length ≤ 20) (hla : ∀ n ∈ la, n ∈ dL (gnm t) (lxN js) js 20 m) (x7 : Option Dv) :
 fD (R2 ns t js la (some (.int m)) none x7) = some (.nx (R2 ns t js (dL (gnm t) (lxN js) js 20 m) (some (.int m)) (some (ej (dL (gnm t) (lxN js) js 20 m))) x7)) := by
 have gj := J.g
 have T := dg js
 have hI : Inc js js := jM nd
 obtain ⟨lf, hlf⟩ : ∃ l, l = dL (gnm t) (lxN js) js 20 m := ⟨_, rfl⟩
 rw [← hlf] at hla ⊢
 have sl : lf.Sublist js := hlf ▸ fit_sub
 have gl : ∀ n ∈ lf, Good n := fun n hn => gj n (sl.subset hn)
 have l6 : lf.length ≤ 6 := Nat.le_trans sl.length_le hjl
 have ll : lf.length = min m js.length := by rw [hlf, xx hI, lx T (by omega)]
 unfold fD
 have w8 : ms (R2 ns t js la (some (.int m)) none x7) = some (.ok (ej lf)) := bC (ae rfl (ae rfl (ae rfl (ae rfl av)))) rfl ((cF (e := 20) ht J (.refl _) nd (by omega) hm).trans (by rw [hlf]))
 rw [aq (ρ' := R2 ns t js la (some (.int m)) (some (ej lf)) x7) (a5 w8 rfl)]
 have q7 : jE (R2 ns t js la (some (.int m)) (some (ej lf)) x7) = some (.ok false) := by
  unfold jE
  refine bT ((bH (x := .int (lf.length : Nat)) (y := .int ((min m js.length : Nat) : Int)) ((bt (ae (x := ej lf) rfl av)).trans (my lf)) ((bt (ae (x := .int m) rfl (ae ((bt (ae (x := ej js) rfl av)).trans (my js)) av))).trans ?_)).trans (ne_int ll))
  show some (Rs.ok (Dv.int (if (js.length : Int) < (m : Int) then (js.length : Int) else (m : Int)))) = _
  congr 3
  split <;> omega
 rw [aq (bd q7)]
 have q8 : jF (R2 ns t js la (some (.int m)) (some (ej lf)) x7) = some (.ok false) := by
  unfold jF
  have f1 : (la.filter fun n => !lf.any fun m => decide (m = n)) = [] := nR hla
  exact bT ((bH (x := .lst []) (y := .lst []) ((mx gla gl (by omega) rfl rfl).2.trans (by rw [f1]; rfl)) rfl).trans CY)
 rw [aq (bd q8)]
 have q9 : mt (R2 ns t js la (some (.int m)) (some (ej lf)) x7) = some (.ok false) := by
  have z : dL (gnm t) (lxN js) lf 20 m = lf := by
   rw [hlf]
   exact rE T (by rw [← hlf]; omega)
  exact bT ((bH (x := ej lf) (y := ej lf) (bC (ae rfl (ae rfl (ae rfl (ae rfl av)))) rfl ((cF (e := 20) ht J sl nd (by omega) hm).trans (by rw [z]))) rfl).trans (se (AE gl) (by omega)))
 rw [aq (bd q9)]
 have q10 : jG (R2 ns t js la (some (.int m)) (some (ej lf)) x7) = some (.ok false) := by
  have f1 : (js.filter fun n => lf.any fun m => decide (m = n)) = lf := by
   have : ∃ q, lf = js.filter q := ⟨_, by rw [hlf]; unfold dL keep aK; rw [List.filter_filter]⟩
   obtain ⟨q, z⟩ := this
   rw [z]
   exact xA q
  exact bT ((bH (x := .lst (lf.map enc)) (y := .lst (lf.map enc)) ((mx gj gl (by omega) rfl rfl).1.trans (by rw [f1])) ((bt (ae (x := ej lf) rfl av)).trans rfl)).trans (se (ro gl) (by omega)))
 rw [aq (bd q10)]
 exact a5 (d := ej lf) rfl rfl
end
section
variable {ns : List Int} {t : List Dv} {js : List Note}
theorem C5 (ht : t ∈ dJ rules) (J : Jar js) (nd : js.Nodup) (hjl : js.length ≤ 6) :
 ∃ la x6 x7, mN 5 [5, 8] (bG (dh (aa (fC (.int 1)) (aa (fC (.int 2)) (aa (fC (.int 3)) (aa (fC (.int 6)) ag)))))) hX [some (.scr ns), some (.tup t), some (ej js), some (.lst ((gls t js).map (row t js))), some (ej []), none, none, none, none, none] = some (.nx (R2 ns t js la none x6 x7)) := by
 have sub : ∀ e, (aK (gnm t) (lxN js) js e).length ≤ 20 := fun e => Nat.le_trans inner_sub.length_le (by omega)
 have gd : ∀ e, ∀ n ∈ aK (gnm t) (lxN js) js e, Good n := fun e n hn => J.g n (inner_sub.subset hn)
 obtain ⟨a1, b1, h1⟩ := nU (ns := ns) (la := []) (e := 1) ht J nd hjl (by omega) (by omega) (fun _ h => by simp at h) (by simp) (fun _ h => by simp at h) none none
 obtain ⟨a2, b2, h2⟩ := nU (ns := ns) (la := aK (gnm t) (lxN js) js 1) (e := 2) ht J nd hjl (by omega) (by omega) (gd 1) (sub 1) (fF (by omega)) (some (ej (aK (gnm t) (lxN js) js 1))) a1
 obtain ⟨a3, b3, h3⟩ := nU (ns := ns) (la := aK (gnm t) (lxN js) js 2) (e := 3) ht J nd hjl (by omega) (by omega) (gd 2) (sub 2) (fF (by omega)) (some (ej (aK (gnm t) (lxN js) js 2))) a2
 obtain ⟨a4, b4, h4⟩ := nU (ns := ns) (la := aK (gnm t) (lxN js) js 3) (e := 6) ht J nd hjl (by omega) (by omega) (gd 3) (sub 3) (fF (by omega)) (some (ej (aK (gnm t) (lxN js) js 3))) a3
 refine ⟨aK (gnm t) (lxN js) js 6, some (ej (aK (gnm t) (lxN js) js 6)), a4, ?_⟩
 rw [jg (ds := [.int 1, .int 2, .int 3, .int 6]) rfl]
 rw [aO (ρ := [some (.scr ns), some (.tup t), some (ej js), some (.lst ((gls t js).map (row t js))), some (ej []), none, none, none, none, none]) h1, aO h2, aO h3, aO h4]
 rfl
theorem C7 (ht : t ∈ dJ rules) (J : Jar js) (nd : js.Nodup) (hjl : js.length ≤ 6) (x6 x7 : Option Dv) :
 ∃ ρ', mN 9 [9, 6] (fun ρ => bnd ((aa (fC (.int 7)) ag) ρ) j4) fD (R2 ns t js [] none x6 x7) = some (.nx ρ') := by
 have sub : ∀ e, (dL (gnm t) (lxN js) js 20 e).length ≤ 20 := fun e => Nat.le_trans fit_sub.length_le (by omega)
 have gd : ∀ e, ∀ n ∈ dL (gnm t) (lxN js) js 20 e, Good n := fun e n hn => J.g n (fit_sub.subset hn)
 have h0 := vm (ns := ns) (la := []) (m := 0) ht J nd hjl (by omega) (fun _ h => by simp at h) (by simp) (fun _ h => by simp at h) x7
 have hs : ∀ m : Nat, m + 1 ≤ 20 → fD (R2 ns t js (dL (gnm t) (lxN js) js 20 m) (some (.int ((m + 1 : Nat) : Int))) none x7) = some (.nx (R2 ns t js (dL (gnm t) (lxN js) js 20 (m + 1)) (some (.int ((m + 1 : Nat) : Int))) (some (ej (dL (gnm t) (lxN js) js 20 (m + 1)))) x7)) := fun m hm =>
  vm (la := dL (gnm t) (lxN js) js 20 m) (m := m + 1) ht J nd hjl hm (gd m) (sub m) uq x7
 have e7 : (fun ρ => bnd ((aa (fC (.int 7)) ag) ρ) j4) (R2 ns t js [] none x6 x7) = some (.ok [.int ((0 : Nat) : Int), .int ((0 + 1 : Nat) : Int), .int ((1 + 1 : Nat) : Int), .int ((2 + 1 : Nat) : Int), .int ((3 + 1 : Nat) : Int), .int ((4 + 1 : Nat) : Int), .int ((5 + 1 : Nat) : Int)]) := by
  show j4 [.int ((7 : Nat) : Int)] = _
  rw [vd (by omega)]
  rfl
 refine ⟨fgt [9, 6] (R2 ns t js (dL (gnm t) (lxN js) js 20 6) (some (.int ((5 + 1 : Nat) : Int))) (some (ej (dL (gnm t) (lxN js) js 20 6))) x7), ?_⟩
 rw [jg e7, aO h0, aO (hs 0 (by omega)), aO (hs 1 (by omega)), aO (hs 2 (by omega)), aO (hs 3 (by omega)), aO (hs 4 (by omega)), aO (hs 5 (by omega))]
 rfl
end
theorem uz (ns : List Int) (hl : ns.length ≤ 63) : ri [.scr ns] = some (.ok (.bl true)) := by
 obtain ⟨t, ht, eT⟩ := um ns hl
 obtain ⟨js, now, eJ, J, hjl, _⟩ := AF ns hl 20 6 (by omega)
 have nd : js.Nodup := by
  have := J.k
  unfold List.Nodup at this ⊢
  rw [List.pairwise_map] at this
  exact this.imp fun h z => h (by rw [z])
 have gj := J.g
 have T := dg js
 have gsz := mz (t := t) (xs := js)
 refine dB ?_
 show rh [some (.scr ns), none, none, none, none, none, none, none, none, none] = _
 unfold rh
 have w1 : mf [some (.scr ns), none, none, none, none, none, none, none, none, none] = some (.ok (.tup t)) := fV bh rfl rfl eT
 rw [aq (a5 w1 rfl)]
 simp only [List.set_cons_succ, List.set_cons_zero]
 have w2 : mh [some (.scr ns), some (.tup t), none, none, none, none, none, none, none, none] = some (.ok (ej js)) := CO cz rfl rfl rfl eJ
 rw [aq (a5 w2 rfl)]
 simp only [List.set_cons_succ, List.set_cons_zero]
 have w3 : mi [some (.scr ns), some (.tup t), some (ej js), none, none, none, none, none, none, none] = some (.ok (.lst ((gls t js).map (row t js)))) := fV cR rfl rfl (lz ht J)
 rw [aq (a5 w3 rfl)]
 simp only [List.set_cons_succ, List.set_cons_zero]
 have q0 : jA [some (.scr ns), some (.tup t), some (ej js), some (.lst ((gls t js).map (row t js))), none, none, none, none, none, none] = some (.ok false) := by
  unfold jA
  have g1 : (aA 2 [] (bG (ab 3)) (gP 0 1) none (ab 1)) [some (.scr ns), some (.tup t), some (ej js), some (.lst ((gls t js).map (row t js))), none, none, none, none, none, none] = some (.ok (.lst ((gls t js).map fun g => Dv.int (mem (gnm t) js g).length))) :=
   lA (fun g => .str g) (fun g => .int (mem (gnm t) js g).length) _ (nO rfl) (by omega) fun g _ => rfl
  rw [wl (bT ((bH ((bt (ae g1 av)).trans (xz _ _)) ((bt (ae (x := ej js) rfl av)).trans (my js))).trans (ne_int (r8 (gnm t) sd js fun n hn => rS hn))))]
  refine bT ((bH (x := .lst ((gls t js).map (row t js))) rfl ((bt (ae (x := .lst ((gls t js).map (row t js))) rfl av)).trans (oJ (by omega)))).trans (se (k := 2) (rk fun d hd => ?_) (by omega)))
  obtain ⟨g, hg, rfl⟩ := List.mem_map.mp hd
  exact vk (sf ht gj hg)
 rw [aq (bd q0)]
 have q1 : mj [some (.scr ns), some (.tup t), some (ej js), some (.lst ((gls t js).map (row t js))), none, none, none, none, none, none] = some (.ok false) :=
  bT ((bH (x := ej js) (y := ej js) (bC (ae rfl (ae rfl (ae rfl (ae rfl av)))) rfl ((cF (e := 20) (m := 20) ht J (.refl _) nd (by omega) (by omega)).trans (by rw [xp T (by omega) (by omega)]))) rfl).trans (se (AE gj) (by omega)))
 rw [aq (bd q1)]
 have q2 : jB [some (.scr ns), some (.tup t), some (ej js), some (.lst ((gls t js).map (row t js))), none, none, none, none, none, none] = some (.ok false) := by
  unfold jB
  have z0 : fB (f2 neX (ah bE 4 (aa (ab 1) (aa (ab 2) (aa (fC (.int 0)) (aa (fC (.int 20)) ag))))) (dh ag)) [some (.scr ns), some (.tup t), some (ej js), some (.lst ((gls t js).map (row t js))), none, none, none, none, none, none] = some (.ok false) :=
   bT ((bH (x := .tup []) (y := .tup []) (bC (ae rfl (ae rfl (ae rfl (ae rfl av)))) rfl ((cF (e := 0) (m := 20) ht J (.refl _) nd (by omega) (by omega)).trans (by rw [jL T (by omega), oK]; rfl))) (by kernel_rfl)).trans (by kernel_rfl))
  rw [wl z0]
  exact bT ((bH (x := .tup []) (y := .tup []) (bC (ae rfl (ae rfl (ae rfl (ae rfl av)))) rfl ((cF (e := 20) (m := 0) ht J (.refl _) nd (by omega) (by omega)).trans (by rw [uy]; rfl))) (by kernel_rfl)).trans (by kernel_rfl))
 rw [aq (bd q2)]
 rw [aq (a5 (v := ml) (d := ej []) (by kernel_rfl) rfl)]
 simp only [List.set_cons_succ, List.set_cons_zero]
 obtain ⟨la, x6, x7, h1⟩ := C5 (ns := ns) ht J nd hjl
 rw [aq h1, aq (ρ' := R2 ns t js [] none x6 x7) (a5 (v := mr) (d := ej []) (by kernel_rfl) rfl)]
 obtain ⟨ρ', h2⟩ := C7 (ns := ns) ht J nd hjl x6 x7
 rw [aq h2]
 rfl
end G
namespace G
open PySem PySem.Spec PyProof.Rows L2 FD
theorem walk {l : PySem.W.OpenLaw} {q : Program} {loose : List Str} {XP : (Str → Option Value) → Heap → Prop} {YP : World → Heap → Prop} {d : DefRec} {K : Params → PySem.W.Frag} (hn : l.most = some 63) (hdf : d.params.defaults = [])
 (hY : ∀ (w : World) (h : Heap), YP w h → (K w.params).In h)
 (F : ∀ (w : World) (mg : Str → Option Value) (fa : Addr) (h : Heap), (K w.params).In h → h.Ns mainGlobals mg → mg d.name = some (.ref fa) →
   ∃ fd : FuncData, (∀ (s : Shared) (u : Value), BindsTo s fd ⟨[u], []⟩ [("_law_script", u)]) ∧ ∀ base : Heap, (K w.params).In base → base.Ns mainGlobals mg → FnOk l.prog w (K w.params) mg base CX0 8 fa fd ["_law_script"] (spF (K w.params) ri 1)) :
 PySem.W.WalkO q loose XP YP l.row.toRowW d [] (fun f vs => PySem.call f vs) :=
 L2.walk_of (n := 63) (k := 8) (x := "_law_script") (CX := fun _ => CX0) (sp := fun w => spF (K w.params) ri 1) hn (by decide) hdf ⟨rfl, by decide, by decide⟩ hY F
  (fun _ _ a ns hl _ hS => ⟨[.scr ns], ⟨.ref a, [], rfl, ⟨a, rfl, hS⟩, rfl⟩, rfl, by rw [uz ns hl]; exact fun v H' _ r => r⟩) fun _ _ _ _ _ z => z
end G
open PySem PySem.W PyProof.Rows
set_option maxRecDepth 100000 in
theorem PySem.Challenge.cw_notejar_k62_whole_groups_holds : PySem.Challenge.rw_notejar_k62_whole_groups.Holds := by
 w_on; o_law
 refine PySem.W.holds_open (q := G.VQ) (loose := G.VL) (Xt := fun s => recOk [] s) (XP := fun _ _ => True) (Yf := Hook.obs (kHook G.KK G.KA G.KA_ok)) (Ya := Hook.val (kHook G.KK G.KA G.KA_ok)) (YP := Hook.says (kHook G.KK G.KA G.KA_ok)) (N := 4912) G.left (Hook.of (kHook G.KK G.KA G.KA_ok)) (Hook.keeps (kHook G.KK G.KA G.KA_ok)) (fun _ _ => trivial) (fun _ _ _ _ _ => trivial) (by rfl) (by rfl) (by rfl) (fun s e => recFacts_of e) (by rfl) (by first | assumption | decide +kernel) (by decide +kernel) ⟨rfl, rfl, rfl, rfl, rfl, by decide +kernel⟩ ?hw ?hc
 (case hw => w_witness2)
 refine G.walk (l := PySem.Challenge.rw_notejar_k62_whole_groups) rfl rfl (fun w h Y => PySem.W.kIn_of Y) ?F
 case F =>
  intro w mg fa h KX hG hmg
  exact G.all_mk KX hG hmg (G.af 315 "law_notejar_k62_whole_groups" 559 314) (G.af 320 "law_notejar_k62_whole_groups" 559 319) (G.af 325 "law_notejar_k62_whole_groups" 559 324) (G.af 332 "law_notejar_k62_whole_groups" 559 331) (G.af 279 "law_notejar_k62_whole_groups" 559 278) (G.af 286 "law_notejar_k62_whole_groups" 559 285) (G.af 293 "law_notejar_k62_whole_groups" 559 292) (G.af 305 "law_notejar_k62_whole_groups" 559 304) (G.af 310 "law_notejar_k62_whole_groups" 559 309) (G.af 298 "law_notejar_k62_whole_groups" 559 297) (G.af 118 "notejar.names" 280 117) (G.af 125 "notejar.names" 280 124) (G.af 132 "notejar.names" 280 131) (G.af 139 "notejar.names" 280 138) (G.af 146 "notejar.names" 280 145) (G.af 236 "notejar.room" 495 235) (G.af 267 "notejar.room" 495 266) (G.af 260 "notejar.room" 495 259) (G.af 272 "notejar.room" 495 271) (G.af 253 "notejar.room" 495 252) (G.af 200 "notejar.notes" 428 199) (G.af 215 "notejar.jars" 466 214) (G.af 210 "notejar.jars" 466 209) (G.af 75 "notejar.kinds" 255 74) (G.af 160 "notejar.asks" 380 159) (G.af 167 "notejar.asks" 380 166) (G.af 68 "notejar.kinds" 255 67) (G.af 89 "notejar.names" 280 88) (G.af 94 "notejar.names" 280 93) (G.af 174 "notejar.giving" 398 173) (G.af 153 "notejar.paths" 367 152) (G.af 186 "notejar.giving" 398 185) (G.af 82 "notejar.kinds" 255 81) (G.af 179 "notejar.giving" 398 178) (G.af 193 "notejar.notes" 428 192) (G.af 205 "notejar.jars" 466 204) (G.af 222 "notejar.jars" 466 221) (G.af 229 "notejar.room" 495 228) (G.af 101 "notejar.names" 280 100) (G.af 106 "notejar.names" 280 105) (G.af 113 "notejar.names" 280 112) (G.af 248 "notejar.room" 495 247) (G.af 241 "notejar.room" 495 240) (G.af 337 "law_notejar_k62_whole_groups" 559 336) (by kernel_rfl)
#print axioms PySem.Challenge.cw_notejar_k62_whole_groups_holds
